/-
  Contracts of the document's digit, times, least.
-/
import Derived.Test.YtkgenageeiaacaaDoorD3
import Derived.Test.YtkgenageeiaacaaDoorS8
import Derived.Test.YtkgenageeiaacaaDoorRm
namespace Go.Proofs.YtkgenageeiaacaaDoor
open Go.RowKit
theorem Tryd.sw : ST Tryd.prog 57 34 1 8 (.int .u64 0) := ⟨by kernel_rfl, by kernel_rfl, rfl, by decide, by decide⟩
theorem x_geqz {P : Program} {ρ : Operand → Value} {o : Oper} {w : World} {T : TypeId} (x y : Operand) (U : TypeId) (ho : o.op = .binOp .geq T x y U) (X Y : Int) (b : Bool) (hb : decide (X ≥ Y) = b) (k : IntKind) (hx : ρ x = .int k X) (hy : ρ y = .int k Y) :
    (execOp ρ o).run P w = .ok (.value (.bool b)) w := by
  subst hb
  unfold execOp
  simp only [ho, hx, hy, Sem.run_bind, run_eqGuard_no .geq (by decide), Result.andThen_ok, binOp, Op.intCmp, ne_eq, not_true_eq_false, if_false, Sem.run_pure]
theorem at64_out {l : List Nat} {i : Nat} (h : ¬ i < l.length) : at64 l i = 0 := by
  unfold at64; rw [List.getD_eq_getElem?_getD, List.getElem?_eq_none (by omega)]; rfl
theorem cmpF_ne {d e : List Nat} {k : Nat} (hk : k > 0) (h : ¬ at64 d (k - 1) = at64 e (k - 1)) : cmpF d e k = decide (at64 d (k - 1) < at64 e (k - 1)) := by
  obtain ⟨j, rfl⟩ : ∃ j, k = j + 1 := ⟨k - 1, by omega⟩
  exact if_neg h
theorem cmpF_eq {d e : List Nat} {k : Nat} (hk : k > 0) (h : at64 d (k - 1) = at64 e (k - 1)) : cmpF d e k = cmpF d e (k - 1) := by
  obtain ⟨j, rfl⟩ : ∃ j, k = j + 1 := ⟨k - 1, by omega⟩
  exact if_pos h

set_option maxHeartbeats 1000000 in
theorem digit_doc (v : Value) (d : List Nat) (n i : Nat) (w : World) (hn : d.length = n) (hv : Rc w.heap.size w v n (c64 d)) (hi : i < 1000) :
    Calls Tryd.prog 41 #[v, .int .i64 ((i : Nat) : Int)] w fun e w' => e = .returned (.int .u64 ((at64 d i : Nat) : Int)) ∧ w' = w := by
  subst hn
  have m0 := Mo.start w
  refine enter [v, .int .i64 ((i : Nat) : Int)] 13 Tryd.func41 rfl Tryd.ntmps41 (Nat.le_of_ble_eq_true rfl) ?_
  refine sq ?_
  refine cz [(0, v), (1, .int .i64 ((i : Nat) : Int))] ⟨rfl, rfl, trivial⟩ (fun _ => ?_)
  refine rp [0] ?_
  refine k0 (wt_none rfl _) rfl (.int .u64 0) (fun _ _ => exec_move (.const (.int .u64 0)) (.inr rfl) _ rfl) ?_
  refine kend ?_
  refine th_n ?_
  refine sq ?_
  refine sq ?_
  by_cases hlt : i < d.length
  · skip
    refine cz [(0, v), (1, .int .i64 ((i : Nat) : Int)), (4, .int .u64 0)] ⟨rfl, rfl, rfl, trivial⟩ (fun _ => ?_)
    refine rp [0, 0, 1, 0] ?_
    refine k0 (wt_none rfl _) rfl (.int .i64 ((i : Nat) : Int)) (fun _ _ => exec_move (.tmp 1) (.inl rfl) _ rfl) ?_
    refine k0 (wt_none rfl _) rfl (v) (fun _ _ => exec_move (.tmp 0) (.inl rfl) _ rfl) ?_
    refine k1 (wt_none rfl _) rfl (.int .i64 ((d.length : Nat) : Int)) (x_len Tryd.sw.sl (.tmp 6) rfl (Rc.at hv m0) rfl) ?_
    refine k0 (wt_none rfl _) rfl (.bool true) (fun _ _ => x_lss_t (.tmp 5) (.tmp 7) _ _ rfl i d.length .i64 (by omega) rfl rfl) ?_
    refine kend ?_
    refine th_n ?_
    refine cdt rfl ?_
    refine sq ?_
    refine cz [(0, v), (1, .int .i64 ((i : Nat) : Int)), (4, .int .u64 0), (8, .bool true)] ⟨rfl, rfl, rfl, rfl, trivial⟩ (fun _ => ?_)
    refine rp [0, 0, 1, 1, 0] ?_
    refine k0 (wt_none rfl _) rfl (v) (fun _ _ => exec_move (.tmp 0) (.inl rfl) _ rfl) ?_
    refine k0 (wt_none rfl _) rfl (.int .i64 ((i : Nat) : Int)) (fun _ _ => exec_move (.tmp 1) (.inl rfl) _ rfl) ?_
    refine k1 (wt_none rfl _) rfl (eP v i) (x_ep Tryd.sw (.tmp 9) (.tmp 10) rfl (Rc.at hv m0) i .i64 i (Nat.mul_one _) (by omega) rfl _ rfl rfl) ?_
    refine k1 (wt_none rfl _) rfl (.int .u64 ((at64 d i : Nat) : Int)) (x_ldp Tryd.u64' (.tmp 11) rfl (Rc.at hv m0) i (by omega) _ (c64_get hlt) rfl) ?_
    refine k0 (wt_none rfl _) rfl (.int .u64 ((at64 d i : Nat) : Int)) (fun _ _ => exec_move (.tmp 12) (.inr rfl) _ rfl) ?_
    refine kend ?_
    refine th_n ?_
    refine re ?_
    refine th_r ?_
    refine rt1 rfl ?_
    exact ⟨rfl, rfl⟩
  · skip
    refine cz [(0, v), (1, .int .i64 ((i : Nat) : Int)), (4, .int .u64 0)] ⟨rfl, rfl, rfl, trivial⟩ (fun _ => ?_)
    refine rp [0, 0, 1, 0] ?_
    refine k0 (wt_none rfl _) rfl (.int .i64 ((i : Nat) : Int)) (fun _ _ => exec_move (.tmp 1) (.inl rfl) _ rfl) ?_
    refine k0 (wt_none rfl _) rfl (v) (fun _ _ => exec_move (.tmp 0) (.inl rfl) _ rfl) ?_
    refine k1 (wt_none rfl _) rfl (.int .i64 ((d.length : Nat) : Int)) (x_len Tryd.sw.sl (.tmp 6) rfl (Rc.at hv m0) rfl) ?_
    refine k0 (wt_none rfl _) rfl (.bool false) (fun _ _ => x_lss_f (.tmp 5) (.tmp 7) _ _ rfl i d.length .i64 (by omega) rfl rfl) ?_
    refine kend ?_
    refine th_n ?_
    refine cdf rfl ?_
    refine sk ?_
    refine th_n ?_
    refine sq ?_
    refine cz [(0, v), (1, .int .i64 ((i : Nat) : Int)), (4, .int .u64 0), (8, .bool false)] ⟨rfl, rfl, rfl, rfl, trivial⟩ (fun _ => ?_)
    refine rp [0] ?_
    refine k0 (wt_none rfl _) rfl (.int .u64 0) (fun _ _ => exec_move (.const (.int .u64 0)) (.inr rfl) _ rfl) ?_
    refine kend ?_
    refine th_n ?_
    refine re ?_
    refine rt1 rfl ?_
    exact ⟨by rw [at64_out hlt]; rfl, rfl⟩

set_option maxHeartbeats 1000000 in
theorem times_doc (v : Value) (d : List Nat) (x n : Nat) (w : World) (hn : d.length = n) (hv : Rc w.heap.size w v n (c64 d)) (hd : D16 d) (hx : x < 137438953472) (hl : n ≤ 20) :
    Calls Tryd.prog 40 #[v, .int .u64 ((x : Nat) : Int)] w fun e w' => ∃ v', e = .returned v' ∧ Mo w w' [.own 34 1 v' (n + 3) (c64 (tm d x))] := by
  subst hn
  have m0 := Mo.start w
  refine enter [v, .int .u64 ((x : Nat) : Int)] 85 Tryd.func40 rfl Tryd.ntmps40 (Nat.le_of_ble_eq_true rfl) ?_
  refine sq ?_
  refine cz [(0, v), (1, .int .u64 ((x : Nat) : Int))] ⟨rfl, rfl, trivial⟩ (fun _ => ?_)
  refine rp [0] ?_
  refine k0 (wt_none rfl _) rfl (.slice none 0 0) (fun _ _ => exec_move (.const (.slice none 0 0)) (.inr rfl) _ rfl) ?_
  refine kend ?_
  refine th_n ?_
  refine sq ?_
  refine cz [(0, v), (1, .int .u64 ((x : Nat) : Int)), (4, .slice none 0 0)] ⟨rfl, rfl, rfl, trivial⟩ (fun _ => ?_)
  refine rp [0, 1, 0, 2, 0] ?_
  refine k0 (wt_none rfl _) rfl (v) (fun _ _ => exec_move (.tmp 0) (.inl rfl) _ rfl) ?_
  refine k1 (wt_none rfl _) rfl (.int .i64 ((d.length : Nat) : Int)) (x_len Tryd.sw.sl (.tmp 12) rfl (Rc.at hv m0) rfl) ?_
  refine k0 (wt_none rfl _) rfl (.int .i64 ((d.length + 3 : Nat) : Int)) (fun _ _ => x_add (.tmp 13) (.const (.int .i64 3)) _ _ rfl d.length 3 (d.length + 3) .i64 (by exact ⟨by omega, (show _ < 9223372036854775808 by omega)⟩) rfl rfl) ?_
  refine k2 (wt_none rfl _) rfl (x_mk Tryd.sw (.tmp 14) (.tmp 14) rfl m0 .i64 .i64 (d.length + 3) (by omega) rfl rfl) ?_
  rintro vv1 ww2 mm3
  rw [made64] at mm3
  refine ⟨trivial, ?_⟩
  refine k0 (wt_none rfl _) rfl (vv1) (fun _ _ => exec_move (.tmp 15) (.inr rfl) _ rfl) ?_
  refine kend ?_
  refine th_n ?_
  refine sq ?_
  refine sq ?_
  refine cz [(0, v), (1, .int .u64 ((x : Nat) : Int)), (4, .slice none 0 0), (5, vv1)] ⟨rfl, rfl, rfl, rfl, trivial⟩ (fun _ => ?_)
  refine rp [0] ?_
  refine k0 (wt_none rfl _) rfl (.int .i64 0) (fun _ _ => exec_move (.const (.int .i64 0)) (.inr rfl) _ rfl) ?_
  refine kend ?_
  refine th_n ?_
  refine bk ?_
  have mm4 : Mo w ww2 [.own 34 1 vv1 (d.length + 3) (c64 (tmI d x 0))] := (by have h := mm3; rw [show c64 (List.replicate (d.length + 3) 0) = c64 (tmI d x 0) from (by rfl)] at h; exact h)
  refine lp (fun (xs : Nat × Value) => [(0, v), (1, .int .u64 ((x : Nat) : Int)), (5, xs.2), (6, .int .i64 ((xs.1 : Nat) : Int))]) (fun (xs : Nat × Value) w1 => (xs.1 ≤ d.length) ∧ Mo w w1 [.own 34 1 xs.2 (d.length + 3) (c64 (tmI d x xs.1))]) (fun (xs : Nat × Value) => d.length - xs.1) (⟨0, vv1⟩) ⟨rfl, rfl, rfl, rfl, trivial⟩ ⟨(show 0 ≤ d.length from (Nat.zero_le _)), (show Mo w ww2 [.own 34 1 vv1 (d.length + 3) (c64 (tmI d x 0))] from mm4)⟩ ?_
  rintro ⟨i, u5⟩ _ ww6 ⟨hh7, mm5⟩
  replace hh7 : i ≤ d.length := hh7
  replace mm5 : Mo w ww6 [.own 34 1 u5 (d.length + 3) (c64 (tmI d x i))] := mm5
  refine cz [(0, v), (1, .int .u64 ((x : Nat) : Int)), (5, u5), (6, .int .i64 ((i : Nat) : Int))] ⟨rfl, rfl, rfl, rfl, trivial⟩ (fun _ => ?_)
  by_cases hlt : i < d.length
  · -- round
    refine sq ?_
    refine sq ?_
    refine cz [(0, v), (1, .int .u64 ((x : Nat) : Int)), (5, u5), (6, .int .i64 ((i : Nat) : Int))] ⟨rfl, rfl, rfl, rfl, trivial⟩ (fun _ => ?_)
    refine rp [0, 0, 1, 0] ?_
    refine k0 (wt_none rfl _) rfl (.int .i64 ((i : Nat) : Int)) (fun _ _ => exec_move (.tmp 6) (.inl rfl) _ rfl) ?_
    refine k0 (wt_none rfl _) rfl (v) (fun _ _ => exec_move (.tmp 0) (.inl rfl) _ rfl) ?_
    refine k1 (wt_none rfl _) rfl (.int .i64 ((d.length : Nat) : Int)) (x_len Tryd.sw.sl (.tmp 17) rfl (Rc.at hv mm5) rfl) ?_
    refine k0 (wt_none rfl _) rfl (.bool true) (fun _ _ => x_lss_t (.tmp 16) (.tmp 18) _ _ rfl i d.length .i64 (by omega) rfl rfl) ?_
    refine kend ?_
    refine th_n ?_
    refine cdt rfl ?_
    refine sk ?_
    refine th_n ?_
    refine sq ?_
    refine bk ?_
    refine sq ?_
    refine cz [(0, v), (1, .int .u64 ((x : Nat) : Int)), (5, u5), (6, .int .i64 ((i : Nat) : Int)), (19, .bool true)] ⟨rfl, rfl, rfl, rfl, rfl, trivial⟩ (fun _ => ?_)
    refine rp [0] ?_
    refine k0 (wt_none rfl _) rfl (.int .u64 0) (fun _ _ => exec_move (.const (.int .u64 0)) (.inr rfl) _ rfl) ?_
    refine kend ?_
    refine th_n ?_
    refine sq ?_
    refine sq ?_
    refine cz [(0, v), (1, .int .u64 ((x : Nat) : Int)), (5, u5), (6, .int .i64 ((i : Nat) : Int)), (7, .int .u64 0), (19, .bool true)] ⟨rfl, rfl, rfl, rfl, rfl, rfl, trivial⟩ (fun _ => ?_)
    refine rp [0] ?_
    refine k0 (wt_none rfl _) rfl (.int .i64 0) (fun _ _ => exec_move (.const (.int .i64 0)) (.inr rfl) _ rfl) ?_
    refine kend ?_
    refine th_n ?_
    refine bk ?_
    have mm8 : Mo w ww6 [.own 34 1 u5 (d.length + 3) (c64 ((inK d x i (tmI d x i) 0).1))] := (by have h := mm5; rw [show c64 (tmI d x i) = c64 ((inK d x i (tmI d x i) 0).1) from (by rfl)] at h; exact h)
    refine lp (fun (xs : Nat) => [(0, v), (1, .int .u64 ((x : Nat) : Int)), (5, u5), (6, .int .i64 ((i : Nat) : Int)), (7, .int .u64 (((inK d x i (tmI d x i) xs).2 : Nat) : Int)), (8, .int .i64 ((xs : Nat) : Int))]) (fun (xs : Nat) w1 => (xs ≤ 3) ∧ Mo w w1 [.own 34 1 u5 (d.length + 3) (c64 ((inK d x i (tmI d x i) xs).1))]) (fun (xs : Nat) => 3 - xs) 0 ⟨rfl, rfl, rfl, rfl, rfl, rfl, trivial⟩ ⟨(show 0 ≤ 3 from (by decide)), (show Mo w ww6 [.own 34 1 u5 (d.length + 3) (c64 ((inK d x i (tmI d x i) 0).1))] from mm8)⟩ ?_
    rintro k _ ww10 ⟨hh11, mm9⟩
    replace hh11 : k ≤ 3 := hh11
    replace mm9 : Mo w ww10 [.own 34 1 u5 (d.length + 3) (c64 ((inK d x i (tmI d x i) k).1))] := mm9
    refine cz [(0, v), (1, .int .u64 ((x : Nat) : Int)), (5, u5), (6, .int .i64 ((i : Nat) : Int)), (7, .int .u64 (((inK d x i (tmI d x i) k).2 : Nat) : Int)), (8, .int .i64 ((k : Nat) : Int))] ⟨rfl, rfl, rfl, rfl, rfl, rfl, trivial⟩ (fun _ => ?_)
    have hin := inK_ok x i hd (tmI_ok x hd i) k
    by_cases hk3 : k < 3
    · -- round
      have g1 : at64 (inK d x i (tmI d x i) k).1 (i + k) < 65536 := at64_le (by decide) hin.1 _
      have g2 : at64 d i < 65536 := at64_le (by decide) hd _
      have g3 : x / 65536 ^ k % 65536 < 65536 := Nat.mod_lt _ (by decide)
      have g4 : at64 d i * (x / 65536 ^ k % 65536) ≤ 4294836225 := Nat.mul_le_mul (Nat.le_of_lt_succ g2) (Nat.le_of_lt_succ g3)
      have g5 := hin.2
      refine sq ?_
      refine sq ?_
      refine cz [(0, v), (1, .int .u64 ((x : Nat) : Int)), (5, u5), (6, .int .i64 ((i : Nat) : Int)), (7, .int .u64 (((inK d x i (tmI d x i) k).2 : Nat) : Int)), (8, .int .i64 ((k : Nat) : Int))] ⟨rfl, rfl, rfl, rfl, rfl, rfl, trivial⟩ (fun _ => ?_)
      refine rp [0, 0] ?_
      refine k0 (wt_none rfl _) rfl (.int .i64 ((k : Nat) : Int)) (fun _ _ => exec_move (.tmp 8) (.inl rfl) _ rfl) ?_
      refine k0 (wt_none rfl _) rfl (.bool true) (fun _ _ => x_lss_t (.tmp 22) (.const (.int .i64 3)) _ _ rfl k 3 .i64 (by omega) rfl rfl) ?_
      refine kend ?_
      refine th_n ?_
      refine cdt rfl ?_
      refine sk ?_
      refine th_n ?_
      refine sq ?_
      refine bk ?_
      refine sq ?_
      refine cz [(0, v), (1, .int .u64 ((x : Nat) : Int)), (5, u5), (6, .int .i64 ((i : Nat) : Int)), (7, .int .u64 (((inK d x i (tmI d x i) k).2 : Nat) : Int)), (8, .int .i64 ((k : Nat) : Int)), (23, .bool true)] ⟨rfl, rfl, rfl, rfl, rfl, rfl, rfl, trivial⟩ (fun _ => ?_)
      refine rp [0, 0] ?_
      refine k0 (wt_none rfl _) rfl (.int .u64 ((x / 65536 ^ 0 : Nat) : Int)) (fun _ _ => by rw [show x / 65536 ^ 0 = x from Nat.div_one x]; exact exec_move (.tmp 1) (.inl rfl) _ rfl) ?_
      refine k0 (wt_none rfl _) rfl (.int .u64 ((x / 65536 ^ 0 : Nat) : Int)) (fun _ _ => exec_move (.tmp 26) (.inr rfl) _ rfl) ?_
      refine kend ?_
      refine th_n ?_
      refine sq ?_
      refine sq ?_
      refine cz [(0, v), (1, .int .u64 ((x : Nat) : Int)), (5, u5), (6, .int .i64 ((i : Nat) : Int)), (7, .int .u64 (((inK d x i (tmI d x i) k).2 : Nat) : Int)), (8, .int .i64 ((k : Nat) : Int)), (9, .int .u64 ((x / 65536 ^ 0 : Nat) : Int)), (23, .bool true)] ⟨rfl, rfl, rfl, rfl, rfl, rfl, rfl, rfl, trivial⟩ (fun _ => ?_)
      refine rp [0] ?_
      refine k0 (wt_none rfl _) rfl (.int .i64 0) (fun _ _ => exec_move (.const (.int .i64 0)) (.inr rfl) _ rfl) ?_
      refine kend ?_
      refine th_n ?_
      refine bk ?_
      refine lp (fun (xs : Nat) => [(0, v), (1, .int .u64 ((x : Nat) : Int)), (5, u5), (6, .int .i64 ((i : Nat) : Int)), (7, .int .u64 (((inK d x i (tmI d x i) k).2 : Nat) : Int)), (8, .int .i64 ((k : Nat) : Int)), (9, .int .u64 ((x / 65536 ^ xs : Nat) : Int)), (10, .int .i64 ((xs : Nat) : Int))]) (fun (xs : Nat) w1 => (xs ≤ k) ∧ Mo w w1 [.own 34 1 u5 (d.length + 3) (c64 ((inK d x i (tmI d x i) k).1))]) (fun (xs : Nat) => k - xs) 0 ⟨rfl, rfl, rfl, rfl, rfl, rfl, rfl, rfl, trivial⟩ ⟨(show 0 ≤ k from (Nat.zero_le _)), (show Mo w ww10 [.own 34 1 u5 (d.length + 3) (c64 ((inK d x i (tmI d x i) k).1))] from mm9)⟩ ?_
      rintro j _ ww13 ⟨hh14, mm12⟩
      replace hh14 : j ≤ k := hh14
      replace mm12 : Mo w ww13 [.own 34 1 u5 (d.length + 3) (c64 ((inK d x i (tmI d x i) k).1))] := mm12
      refine cz [(0, v), (1, .int .u64 ((x : Nat) : Int)), (5, u5), (6, .int .i64 ((i : Nat) : Int)), (7, .int .u64 (((inK d x i (tmI d x i) k).2 : Nat) : Int)), (8, .int .i64 ((k : Nat) : Int)), (9, .int .u64 ((x / 65536 ^ j : Nat) : Int)), (10, .int .i64 ((j : Nat) : Int))] ⟨rfl, rfl, rfl, rfl, rfl, rfl, rfl, rfl, trivial⟩ (fun _ => ?_)
      have hxj : x / 65536 ^ j < 137438953472 := Nat.lt_of_le_of_lt (Nat.div_le_self _ _) hx
      by_cases hj3 : j < k
      · -- round
        refine sq ?_
        refine sq ?_
        refine cz [(0, v), (1, .int .u64 ((x : Nat) : Int)), (5, u5), (6, .int .i64 ((i : Nat) : Int)), (7, .int .u64 (((inK d x i (tmI d x i) k).2 : Nat) : Int)), (8, .int .i64 ((k : Nat) : Int)), (9, .int .u64 ((x / 65536 ^ j : Nat) : Int)), (10, .int .i64 ((j : Nat) : Int))] ⟨rfl, rfl, rfl, rfl, rfl, rfl, rfl, rfl, trivial⟩ (fun _ => ?_)
        refine rp [0, 0, 0] ?_
        refine k0 (wt_none rfl _) rfl (.int .i64 ((j : Nat) : Int)) (fun _ _ => exec_move (.tmp 10) (.inl rfl) _ rfl) ?_
        refine k0 (wt_none rfl _) rfl (.int .i64 ((k : Nat) : Int)) (fun _ _ => exec_move (.tmp 8) (.inl rfl) _ rfl) ?_
        refine k0 (wt_none rfl _) rfl (.bool true) (fun _ _ => x_lss_t (.tmp 27) (.tmp 28) _ _ rfl j k .i64 (by omega) rfl rfl) ?_
        refine kend ?_
        refine th_n ?_
        refine cdt rfl ?_
        refine sk ?_
        refine th_n ?_
        refine sq ?_
        refine bk ?_
        refine cz [(0, v), (1, .int .u64 ((x : Nat) : Int)), (5, u5), (6, .int .i64 ((i : Nat) : Int)), (7, .int .u64 (((inK d x i (tmI d x i) k).2 : Nat) : Int)), (8, .int .i64 ((k : Nat) : Int)), (9, .int .u64 ((x / 65536 ^ j : Nat) : Int)), (10, .int .i64 ((j : Nat) : Int)), (29, .bool true)] ⟨rfl, rfl, rfl, rfl, rfl, rfl, rfl, rfl, rfl, trivial⟩ (fun _ => ?_)
        refine rp [0, 0, 0] ?_
        refine k0 (wt_none rfl _) rfl (.int .u64 ((x / 65536 ^ j : Nat) : Int)) (fun _ _ => exec_move (.tmp 9) (.inl rfl) _ rfl) ?_
        refine k0 (wt_none rfl _) rfl (.int .u64 ((x / 65536 ^ (j + 1) : Nat) : Int)) (fun _ _ => x_quo (.tmp 32) (.const (.int .u64 65536)) _ _ rfl (x / 65536 ^ j) 65536 (x / 65536 ^ (j + 1)) .u64 (by exact ⟨by rw [Nat.pow_succ, ← Nat.div_div_eq_div_mul], by decide, Nat.lt_trans hxj (by decide)⟩) rfl rfl) ?_
        refine k0 (wt_none rfl _) rfl (.int .u64 ((x / 65536 ^ (j + 1) : Nat) : Int)) (fun _ _ => exec_move (.tmp 33) (.inr rfl) _ rfl) ?_
        refine kend ?_
        refine ib_n ?_
        refine th_n ?_
        refine cz [(0, v), (1, .int .u64 ((x : Nat) : Int)), (5, u5), (6, .int .i64 ((i : Nat) : Int)), (7, .int .u64 (((inK d x i (tmI d x i) k).2 : Nat) : Int)), (8, .int .i64 ((k : Nat) : Int)), (9, .int .u64 ((x / 65536 ^ (j + 1) : Nat) : Int)), (10, .int .i64 ((j : Nat) : Int)), (29, .bool true)] ⟨rfl, rfl, rfl, rfl, rfl, rfl, rfl, rfl, rfl, trivial⟩ (fun _ => ?_)
        refine rp [0, 0, 0] ?_
        refine k0 (wt_none rfl _) rfl (.int .i64 ((j : Nat) : Int)) (fun _ _ => exec_move (.tmp 10) (.inl rfl) _ rfl) ?_
        refine k0 (wt_none rfl _) rfl (.int .i64 ((j + 1 : Nat) : Int)) (fun _ _ => x_add (.tmp 30) (.const (.int .i64 1)) _ _ rfl j 1 (j + 1) .i64 (by exact ⟨by omega, (show _ < 9223372036854775808 by omega)⟩) rfl rfl) ?_
        refine k0 (wt_none rfl _) rfl (.int .i64 ((j + 1 : Nat) : Int)) (fun _ _ => exec_move (.tmp 31) (.inr rfl) _ rfl) ?_
        refine kend ?_
        refine th_n ?_
        exact ⟨_, (j + 1 : Nat), rfl, ⟨rfl, rfl, rfl, rfl, rfl, rfl, rfl, rfl, trivial⟩, ⟨(show (j + 1) ≤ k from (by omega)), (show Mo w ww13 [.own 34 1 u5 (d.length + 3) (c64 ((inK d x i (tmI d x i) k).1))] from mm12)⟩, (show k - (j + 1) < k - j by omega)⟩
      · -- behind the loop
        obtain rfl : k = j := by omega
        refine sq ?_
        refine sq ?_
        refine cz [(0, v), (1, .int .u64 ((x : Nat) : Int)), (5, u5), (6, .int .i64 ((i : Nat) : Int)), (7, .int .u64 (((inK d x i (tmI d x i) k).2 : Nat) : Int)), (8, .int .i64 ((k : Nat) : Int)), (9, .int .u64 ((x / 65536 ^ k : Nat) : Int)), (10, .int .i64 ((k : Nat) : Int))] ⟨rfl, rfl, rfl, rfl, rfl, rfl, rfl, rfl, trivial⟩ (fun _ => ?_)
        refine rp [0, 0, 0] ?_
        refine k0 (wt_none rfl _) rfl (.int .i64 ((k : Nat) : Int)) (fun _ _ => exec_move (.tmp 10) (.inl rfl) _ rfl) ?_
        refine k0 (wt_none rfl _) rfl (.int .i64 ((k : Nat) : Int)) (fun _ _ => exec_move (.tmp 8) (.inl rfl) _ rfl) ?_
        refine k0 (wt_none rfl _) rfl (.bool false) (fun _ _ => x_lss_f (.tmp 27) (.tmp 28) _ _ rfl k k .i64 (by omega) rfl rfl) ?_
        refine kend ?_
        refine th_n ?_
        refine cdf rfl ?_
        refine ex ?_
        refine th_x ?_
        refine th_x ?_
        refine ib_x ?_
        refine th_n ?_
        refine sq ?_
        refine cz [(0, v), (1, .int .u64 ((x : Nat) : Int)), (5, u5), (6, .int .i64 ((i : Nat) : Int)), (7, .int .u64 (((inK d x i (tmI d x i) k).2 : Nat) : Int)), (8, .int .i64 ((k : Nat) : Int)), (9, .int .u64 ((x / 65536 ^ k : Nat) : Int)), (10, .int .i64 ((k : Nat) : Int)), (29, .bool false)] ⟨rfl, rfl, rfl, rfl, rfl, rfl, rfl, rfl, rfl, trivial⟩ (fun _ => ?_)
        have mm16 := mm12.drew
        refine rq (fun w1 => Mo w w1 [.own 34 1 u5 (d.length + 3) (c64 ((inK d x i (tmI d x i) k).1))]) [0, 0, 0, 0, 0, 0, 0, 0, 0, 0, 0, 0, 0, 0, 0, 0, 0] (by kernel_rfl) (by kernel_rfl) (by kernel_rfl) (mm16.sub (List.Sublist.cons_cons _ List.Sublist.slnil)) ?_
        refine k0 (wt_none rfl _) rfl (.int .u64 (((inK d x i (tmI d x i) k).2 : Nat) : Int)) (fun _ _ => exec_move (.tmp 7) (.inl rfl) _ rfl) ?_
        refine k0 (wt_none rfl _) rfl (u5) (fun _ _ => exec_move (.tmp 5) (.inl rfl) _ rfl) ?_
        refine k0 (wt_none rfl _) rfl (.int .i64 ((i : Nat) : Int)) (fun _ _ => exec_move (.tmp 6) (.inl rfl) _ rfl) ?_
        refine k0 (wt_none rfl _) rfl (.int .i64 ((k : Nat) : Int)) (fun _ _ => exec_move (.tmp 8) (.inl rfl) _ rfl) ?_
        refine k0 (wt_none rfl _) rfl (.int .i64 ((i + k : Nat) : Int)) (fun _ _ => x_add (.tmp 36) (.tmp 37) _ _ rfl i k (i + k) .i64 (by exact ⟨by omega, (show _ < 9223372036854775808 by omega)⟩) rfl rfl) ?_
        refine k0 (wt_none rfl _) rfl (eP u5 (i + k)) (fun _ hC => x_ep Tryd.sw (.tmp 35) (.tmp 38) rfl (hC.rc 0 rfl) (i + k) .i64 (i + k) (Nat.mul_one _) (by omega) rfl _ rfl rfl) ?_
        refine k0 (wt_none rfl _) rfl (.int .u64 ((at64 ((inK d x i (tmI d x i) k).1) (i + k) : Nat) : Int)) (fun _ hC => x_ldp Tryd.u64' (.tmp 39) rfl (hC.rc 0 rfl) (i + k) (by omega) _ (c64_get (by rw [inK_length, tmI_length]; omega)) rfl) ?_
        refine k0 (wt_none rfl _) rfl (.int .u64 ((((inK d x i (tmI d x i) k).2) + (at64 ((inK d x i (tmI d x i) k).1) (i + k)) : Nat) : Int)) (fun _ _ => x_add (.tmp 34) (.tmp 40) _ _ rfl ((inK d x i (tmI d x i) k).2) (at64 ((inK d x i (tmI d x i) k).1) (i + k)) (((inK d x i (tmI d x i) k).2) + (at64 ((inK d x i (tmI d x i) k).1) (i + k))) .u64 (by exact ⟨by omega, (show _ < 18446744073709551616 by omega)⟩) rfl rfl) ?_
        refine k0 (wt_none rfl _) rfl (v) (fun _ _ => exec_move (.tmp 0) (.inl rfl) _ rfl) ?_
        refine k0 (wt_none rfl _) rfl (.int .i64 ((i : Nat) : Int)) (fun _ _ => exec_move (.tmp 6) (.inl rfl) _ rfl) ?_
        refine k0 (wt_none rfl _) rfl (eP v i) (fun _ hC => x_ep Tryd.sw (.tmp 42) (.tmp 43) rfl (Rc.at hv hC) i .i64 i (Nat.mul_one _) hlt rfl _ rfl rfl) ?_
        refine k0 (wt_none rfl _) rfl (.int .u64 ((at64 d i : Nat) : Int)) (fun _ hC => x_ldp Tryd.u64' (.tmp 44) rfl (Rc.at hv hC) i (by omega) _ (c64_get hlt) rfl) ?_
        refine k0 (wt_none rfl _) rfl (.int .u64 ((x / 65536 ^ k : Nat) : Int)) (fun _ _ => exec_move (.tmp 9) (.inl rfl) _ rfl) ?_
        refine k0 (wt_none rfl _) rfl (.int .u64 (((x / 65536 ^ k) % 65536 : Nat) : Int)) (fun _ _ => x_rem (.tmp 46) (.const (.int .u64 65536)) _ _ rfl (x / 65536 ^ k) 65536 ((x / 65536 ^ k) % 65536) .u64 (by exact ⟨rfl, by decide⟩) rfl rfl) ?_
        refine k0 (wt_none rfl _) rfl (.int .u64 (((at64 d i) * ((x / 65536 ^ k) % 65536) : Nat) : Int)) (fun _ _ => x_mul (.tmp 45) (.tmp 47) _ _ rfl (at64 d i) ((x / 65536 ^ k) % 65536) ((at64 d i) * ((x / 65536 ^ k) % 65536)) .u64 (by exact ⟨rfl, Nat.lt_of_le_of_lt g4 (by decide)⟩) rfl rfl) ?_
        refine k0 (wt_none rfl _) rfl (.int .u64 (((((inK d x i (tmI d x i) k).2) + (at64 ((inK d x i (tmI d x i) k).1) (i + k))) + ((at64 d i) * ((x / 65536 ^ k) % 65536)) : Nat) : Int)) (fun _ _ => x_add (.tmp 41) (.tmp 48) _ _ rfl (((inK d x i (tmI d x i) k).2) + (at64 ((inK d x i (tmI d x i) k).1) (i + k))) ((at64 d i) * ((x / 65536 ^ k) % 65536)) ((((inK d x i (tmI d x i) k).2) + (at64 ((inK d x i (tmI d x i) k).1) (i + k))) + ((at64 d i) * ((x / 65536 ^ k) % 65536))) .u64 (by exact ⟨by omega, (show _ < 18446744073709551616 by omega)⟩) rfl rfl) ?_
        refine k0 (wt_none rfl _) rfl (.int .u64 (((((inK d x i (tmI d x i) k).2) + (at64 ((inK d x i (tmI d x i) k).1) (i + k))) + ((at64 d i) * ((x / 65536 ^ k) % 65536)) : Nat) : Int)) (fun _ _ => exec_move (.tmp 49) (.inr rfl) _ rfl) ?_
        refine kend ?_
        refine th_n ?_
        refine sq ?_
        refine cz [(0, v), (1, .int .u64 ((x : Nat) : Int)), (5, u5), (6, .int .i64 ((i : Nat) : Int)), (7, .int .u64 (((((inK d x i (tmI d x i) k).2) + (at64 ((inK d x i (tmI d x i) k).1) (i + k))) + ((at64 d i) * ((x / 65536 ^ k) % 65536)) : Nat) : Int)), (8, .int .i64 ((k : Nat) : Int)), (9, .int .u64 ((x / 65536 ^ k : Nat) : Int)), (10, .int .i64 ((k : Nat) : Int)), (29, .bool false)] ⟨rfl, rfl, rfl, rfl, rfl, rfl, rfl, rfl, rfl, trivial⟩ (fun _ => ?_)
        refine rp [0, 0, 0, 0, 0, 0, 1, 2] ?_
        refine k0 (wt_none rfl _) rfl (u5) (fun _ _ => exec_move (.tmp 5) (.inl rfl) _ rfl) ?_
        refine k0 (wt_none rfl _) rfl (.int .i64 ((i : Nat) : Int)) (fun _ _ => exec_move (.tmp 6) (.inl rfl) _ rfl) ?_
        refine k0 (wt_none rfl _) rfl (.int .i64 ((k : Nat) : Int)) (fun _ _ => exec_move (.tmp 8) (.inl rfl) _ rfl) ?_
        refine k0 (wt_none rfl _) rfl (.int .i64 ((i + k : Nat) : Int)) (fun _ _ => x_add (.tmp 51) (.tmp 52) _ _ rfl i k (i + k) .i64 (by exact ⟨by omega, (show _ < 9223372036854775808 by omega)⟩) rfl rfl) ?_
        refine k0 (wt_none rfl _) rfl (.int .u64 (((((inK d x i (tmI d x i) k).2) + (at64 ((inK d x i (tmI d x i) k).1) (i + k))) + ((at64 d i) * ((x / 65536 ^ k) % 65536)) : Nat) : Int)) (fun _ _ => exec_move (.tmp 7) (.inl rfl) _ rfl) ?_
        refine k0 (wt_none rfl _) rfl (.int .u64 ((((((inK d x i (tmI d x i) k).2) + (at64 ((inK d x i (tmI d x i) k).1) (i + k))) + ((at64 d i) * ((x / 65536 ^ k) % 65536))) % 65536 : Nat) : Int)) (fun _ _ => x_rem (.tmp 54) (.const (.int .u64 65536)) _ _ rfl ((((inK d x i (tmI d x i) k).2) + (at64 ((inK d x i (tmI d x i) k).1) (i + k))) + ((at64 d i) * ((x / 65536 ^ k) % 65536))) 65536 (((((inK d x i (tmI d x i) k).2) + (at64 ((inK d x i (tmI d x i) k).1) (i + k))) + ((at64 d i) * ((x / 65536 ^ k) % 65536))) % 65536) .u64 (by exact ⟨rfl, by omega⟩) rfl rfl) ?_
        refine k1 (wt_none rfl _) rfl (eP u5 (i + k)) (x_ep Tryd.sw (.tmp 50) (.tmp 53) rfl (mm16.rc 0 rfl) (i + k) .i64 (i + k) (Nat.mul_one _) (by omega) rfl _ rfl rfl) ?_
        refine ks (wt_none rfl _) rfl rfl (x_set (.tmp 56) (.tmp 55) rfl mm16 0 rfl (i + k) [.int .u64 ((((((inK d x i (tmI d x i) k).2) + (at64 ((inK d x i (tmI d x i) k).1) (i + k))) + ((at64 d i) * ((x / 65536 ^ k) % 65536))) % 65536 : Nat) : Int)] (c64 ((inK d x i (tmI d x i) (k + 1)).1)) Tryd.one64 (show _ + 1 ≤ _ by rw [c64_length]; rw [inK_length, tmI_length]; omega) (Nat.zero_lt_succ _) (fun _ h => by rw [List.mem_singleton.1 h]; rfl) (by rw [cells_set64 (by rw [inK_length, tmI_length]; omega)]; rfl) rfl (.int .u64 ((((((inK d x i (tmI d x i) k).2) + (at64 ((inK d x i (tmI d x i) k).1) (i + k))) + ((at64 d i) * ((x / 65536 ^ k) % 65536))) % 65536 : Nat) : Int)) rfl rfl) ?_
        rintro ww17 mm18
        have mm19 : Mo w ww17 [.own 34 1 u5 (d.length + 3) (c64 ((inK d x i (tmI d x i) (k + 1)).1))] := mm18
        refine ⟨trivial, ?_⟩
        refine kend ?_
        refine th_n ?_
        refine cz [(0, v), (1, .int .u64 ((x : Nat) : Int)), (5, u5), (6, .int .i64 ((i : Nat) : Int)), (7, .int .u64 (((((inK d x i (tmI d x i) k).2) + (at64 ((inK d x i (tmI d x i) k).1) (i + k))) + ((at64 d i) * ((x / 65536 ^ k) % 65536)) : Nat) : Int)), (8, .int .i64 ((k : Nat) : Int)), (9, .int .u64 ((x / 65536 ^ k : Nat) : Int)), (10, .int .i64 ((k : Nat) : Int)), (29, .bool false)] ⟨rfl, rfl, rfl, rfl, rfl, rfl, rfl, rfl, rfl, trivial⟩ (fun _ => ?_)
        refine rp [0, 0, 0] ?_
        refine k0 (wt_none rfl _) rfl (.int .u64 (((((inK d x i (tmI d x i) k).2) + (at64 ((inK d x i (tmI d x i) k).1) (i + k))) + ((at64 d i) * ((x / 65536 ^ k) % 65536)) : Nat) : Int)) (fun _ _ => exec_move (.tmp 7) (.inl rfl) _ rfl) ?_
        refine k0 (wt_none rfl _) rfl (.int .u64 (((inK d x i (tmI d x i) (k + 1)).2 : Nat) : Int)) (fun _ _ => x_quo (.tmp 57) (.const (.int .u64 65536)) _ _ rfl ((((inK d x i (tmI d x i) k).2) + (at64 ((inK d x i (tmI d x i) k).1) (i + k))) + ((at64 d i) * ((x / 65536 ^ k) % 65536))) 65536 ((inK d x i (tmI d x i) (k + 1)).2) .u64 (by exact ⟨rfl, by decide, (show _ < 18446744073709551616 by omega)⟩) rfl rfl) ?_
        refine k0 (wt_none rfl _) rfl (.int .u64 (((inK d x i (tmI d x i) (k + 1)).2 : Nat) : Int)) (fun _ _ => exec_move (.tmp 58) (.inr rfl) _ rfl) ?_
        refine kend ?_
        refine ib_n ?_
        refine th_n ?_
        refine cz [(0, v), (1, .int .u64 ((x : Nat) : Int)), (5, u5), (6, .int .i64 ((i : Nat) : Int)), (7, .int .u64 (((inK d x i (tmI d x i) (k + 1)).2 : Nat) : Int)), (8, .int .i64 ((k : Nat) : Int)), (9, .int .u64 ((x / 65536 ^ k : Nat) : Int)), (10, .int .i64 ((k : Nat) : Int)), (29, .bool false)] ⟨rfl, rfl, rfl, rfl, rfl, rfl, rfl, rfl, rfl, trivial⟩ (fun _ => ?_)
        refine rp [0, 0, 0] ?_
        refine k0 (wt_none rfl _) rfl (.int .i64 ((k : Nat) : Int)) (fun _ _ => exec_move (.tmp 8) (.inl rfl) _ rfl) ?_
        refine k0 (wt_none rfl _) rfl (.int .i64 ((k + 1 : Nat) : Int)) (fun _ _ => x_add (.tmp 24) (.const (.int .i64 1)) _ _ rfl k 1 (k + 1) .i64 (by exact ⟨by omega, (show _ < 9223372036854775808 by omega)⟩) rfl rfl) ?_
        refine k0 (wt_none rfl _) rfl (.int .i64 ((k + 1 : Nat) : Int)) (fun _ _ => exec_move (.tmp 25) (.inr rfl) _ rfl) ?_
        refine kend ?_
        refine th_n ?_
        exact ⟨_, (k + 1 : Nat), rfl, ⟨rfl, rfl, rfl, rfl, rfl, rfl, trivial⟩, ⟨(show (k + 1) ≤ 3 from (by omega)), (show Mo w ww17 [.own 34 1 u5 (d.length + 3) (c64 ((inK d x i (tmI d x i) (k + 1)).1))] from mm19)⟩, (show 3 - (k + 1) < 3 - k by omega)⟩
    · -- behind the loop
      obtain rfl : k = 3 := by omega
      refine sq ?_
      refine sq ?_
      refine cz [(0, v), (1, .int .u64 ((x : Nat) : Int)), (5, u5), (6, .int .i64 ((i : Nat) : Int)), (7, .int .u64 (((inK d x i (tmI d x i) 3).2 : Nat) : Int)), (8, .int .i64 3)] ⟨rfl, rfl, rfl, rfl, rfl, rfl, trivial⟩ (fun _ => ?_)
      refine rp [0, 0] ?_
      refine k0 (wt_none rfl _) rfl (.int .i64 3) (fun _ _ => exec_move (.tmp 8) (.inl rfl) _ rfl) ?_
      refine k0 (wt_none rfl _) rfl (.bool false) (fun _ _ => x_lss_f (.tmp 22) (.const (.int .i64 3)) _ _ rfl 3 3 .i64 (by omega) rfl rfl) ?_
      refine kend ?_
      refine th_n ?_
      refine cdf rfl ?_
      refine ex ?_
      refine th_x ?_
      refine th_x ?_
      refine ib_x ?_
      refine th_n ?_
      refine sq ?_
      refine cz [(0, v), (1, .int .u64 ((x : Nat) : Int)), (5, u5), (6, .int .i64 ((i : Nat) : Int)), (7, .int .u64 (((inK d x i (tmI d x i) 3).2 : Nat) : Int)), (8, .int .i64 3), (23, .bool false)] ⟨rfl, rfl, rfl, rfl, rfl, rfl, rfl, trivial⟩ (fun _ => ?_)
      refine rp [0, 0, 0] ?_
      refine k0 (wt_none rfl _) rfl (.int .i64 ((i : Nat) : Int)) (fun _ _ => exec_move (.tmp 6) (.inl rfl) _ rfl) ?_
      refine k0 (wt_none rfl _) rfl (.int .i64 ((i + 3 : Nat) : Int)) (fun _ _ => x_add (.tmp 59) (.const (.int .i64 3)) _ _ rfl i 3 (i + 3) .i64 (by exact ⟨by omega, (show _ < 9223372036854775808 by omega)⟩) rfl rfl) ?_
      refine k0 (wt_none rfl _) rfl (.int .i64 ((i + 3 : Nat) : Int)) (fun _ _ => exec_move (.tmp 60) (.inr rfl) _ rfl) ?_
      refine kend ?_
      refine th_n ?_
      refine bk ?_
      refine lp (fun (xs : List Nat × Nat × Nat) => [(0, v), (1, .int .u64 ((x : Nat) : Int)), (5, u5), (6, .int .i64 ((i : Nat) : Int)), (7, .int .u64 ((xs.2.1 : Nat) : Int)), (11, .int .i64 ((xs.2.2 : Nat) : Int))]) (fun (xs : List Nat × Nat × Nat) w1 => (crF (d.length + 3 - xs.2.2) xs.1 xs.2.1 xs.2.2 = tmI d x (i + 1)) ∧ (D16 xs.1) ∧ (xs.1.length = d.length + 3) ∧ (xs.2.1 ≤ 65536) ∧ (xs.2.2 ≤ d.length + 3) ∧ Mo w w1 [.own 34 1 u5 (d.length + 3) (c64 xs.1)]) (fun (xs : List Nat × Nat × Nat) => d.length + 3 - xs.2.2) (⟨(inK d x i (tmI d x i) 3).1, (inK d x i (tmI d x i) 3).2, i + 3⟩) ⟨rfl, rfl, rfl, rfl, rfl, rfl, trivial⟩ ⟨(show crF (d.length + 3 - (i + 3)) ((inK d x i (tmI d x i) 3).1) ((inK d x i (tmI d x i) 3).2) (i + 3) = tmI d x (i + 1) from rfl), (show D16 ((inK d x i (tmI d x i) 3).1) from (inK_ok x i hd (tmI_ok x hd i) 3).1), (show ((inK d x i (tmI d x i) 3).1).length = d.length + 3 from (by rw [inK_length, tmI_length])), (show ((inK d x i (tmI d x i) 3).2) ≤ 65536 from (inK_ok x i hd (tmI_ok x hd i) 3).2), (show (i + 3) ≤ d.length + 3 from (by omega)), (show Mo w ww10 [.own 34 1 u5 (d.length + 3) (c64 ((inK d x i (tmI d x i) 3).1))] from mm9)⟩ ?_
      rintro ⟨o, c, m⟩ _ ww21 ⟨hh22, hh23, hh24, hh25, hh26, mm20⟩
      replace hh22 : crF (d.length + 3 - m) o c m = tmI d x (i + 1) := hh22
      replace hh23 : D16 o := hh23
      replace hh24 : o.length = d.length + 3 := hh24
      replace hh25 : c ≤ 65536 := hh25
      replace hh26 : m ≤ d.length + 3 := hh26
      replace mm20 : Mo w ww21 [.own 34 1 u5 (d.length + 3) (c64 o)] := mm20
      refine cz [(0, v), (1, .int .u64 ((x : Nat) : Int)), (5, u5), (6, .int .i64 ((i : Nat) : Int)), (7, .int .u64 ((c : Nat) : Int)), (11, .int .i64 ((m : Nat) : Int))] ⟨rfl, rfl, rfl, rfl, rfl, rfl, trivial⟩ (fun _ => ?_)
      have hol := hh24
      have hom : at64 o m < 65536 := at64_le (by decide) hh23 m
      refine sq ?_
      refine sq ?_
      by_cases hc0 : c > 0
      · skip
        by_cases hm0 : m < d.length + 3
        · skip
          refine cz [(0, v), (1, .int .u64 ((x : Nat) : Int)), (5, u5), (6, .int .i64 ((i : Nat) : Int)), (7, .int .u64 ((c : Nat) : Int)), (11, .int .i64 ((m : Nat) : Int))] ⟨rfl, rfl, rfl, rfl, rfl, rfl, trivial⟩ (fun _ => ?_)
          refine rp [0, 0, 0, 0, 0, 1, 0, 0] ?_
          refine k0 (wt_none rfl _) rfl (.int .u64 ((c : Nat) : Int)) (fun _ _ => exec_move (.tmp 7) (.inl rfl) _ rfl) ?_
          refine k0 (wt_none rfl _) rfl (.bool true) (fun _ _ => x_gtr_t (.tmp 61) (.const (.int .u64 0)) _ _ rfl c 0 .u64 (by omega) rfl rfl) ?_
          refine k0 (wt_none rfl _) rfl (.bool true) (fun _ _ => exec_move (.tmp 62) (.inl rfl) _ rfl) ?_
          refine k0 (wt_some rfl rfl rfl rfl) rfl (.int .i64 ((m : Nat) : Int)) (fun _ _ => exec_move (.tmp 11) (.inl rfl) _ rfl) ?_
          refine k0 (wt_some rfl rfl rfl rfl) rfl (u5) (fun _ _ => exec_move (.tmp 5) (.inl rfl) _ rfl) ?_
          refine k1 (wt_some rfl rfl rfl rfl) rfl (.int .i64 ((d.length + 3 : Nat) : Int)) (x_len Tryd.sw.sl (.tmp 65) rfl (mm20.rc 0 rfl) rfl) ?_
          refine k0 (wt_some rfl rfl rfl rfl) rfl (.bool true) (fun _ _ => x_lss_t (.tmp 64) (.tmp 66) _ _ rfl m (d.length + 3) .i64 (by omega) rfl rfl) ?_
          refine k0 (wt_none rfl _) rfl (.bool true) (fun _ _ => x_pick (.tmp 63) (.tmp 67) (.const (.bool false)) rfl true _ rfl rfl) ?_
          refine kend ?_
          refine th_n ?_
          refine cdt rfl ?_
          refine sk ?_
          refine th_n ?_
          refine sq ?_
          refine bk ?_
          refine sq ?_
          refine cz [(0, v), (1, .int .u64 ((x : Nat) : Int)), (5, u5), (6, .int .i64 ((i : Nat) : Int)), (7, .int .u64 ((c : Nat) : Int)), (11, .int .i64 ((m : Nat) : Int)), (68, .bool true)] ⟨rfl, rfl, rfl, rfl, rfl, rfl, rfl, trivial⟩ (fun _ => ?_)
          refine rp [0, 0, 0, 1, 1, 0, 0] ?_
          refine k0 (wt_none rfl _) rfl (.int .u64 ((c : Nat) : Int)) (fun _ _ => exec_move (.tmp 7) (.inl rfl) _ rfl) ?_
          refine k0 (wt_none rfl _) rfl (u5) (fun _ _ => exec_move (.tmp 5) (.inl rfl) _ rfl) ?_
          refine k0 (wt_none rfl _) rfl (.int .i64 ((m : Nat) : Int)) (fun _ _ => exec_move (.tmp 11) (.inl rfl) _ rfl) ?_
          refine k1 (wt_none rfl _) rfl (eP u5 m) (x_ep Tryd.sw (.tmp 72) (.tmp 73) rfl (mm20.rc 0 rfl) m .i64 m (Nat.mul_one _) (by omega) rfl _ rfl rfl) ?_
          refine k1 (wt_none rfl _) rfl (.int .u64 ((at64 o m : Nat) : Int)) (x_ldp Tryd.u64' (.tmp 74) rfl (mm20.rc 0 rfl) m (by omega) _ (c64_get (by rw [hol]; omega)) rfl) ?_
          refine k0 (wt_none rfl _) rfl (.int .u64 ((c + (at64 o m) : Nat) : Int)) (fun _ _ => x_add (.tmp 71) (.tmp 75) _ _ rfl c (at64 o m) (c + (at64 o m)) .u64 (by exact ⟨by omega, (show _ < 18446744073709551616 by omega)⟩) rfl rfl) ?_
          refine k0 (wt_none rfl _) rfl (.int .u64 ((c + (at64 o m) : Nat) : Int)) (fun _ _ => exec_move (.tmp 76) (.inr rfl) _ rfl) ?_
          refine kend ?_
          refine th_n ?_
          refine sq ?_
          refine cz [(0, v), (1, .int .u64 ((x : Nat) : Int)), (5, u5), (6, .int .i64 ((i : Nat) : Int)), (7, .int .u64 ((c + (at64 o m) : Nat) : Int)), (11, .int .i64 ((m : Nat) : Int)), (68, .bool true)] ⟨rfl, rfl, rfl, rfl, rfl, rfl, rfl, trivial⟩ (fun _ => ?_)
          refine rp [0, 0, 0, 0, 1, 2] ?_
          refine k0 (wt_none rfl _) rfl (u5) (fun _ _ => exec_move (.tmp 5) (.inl rfl) _ rfl) ?_
          refine k0 (wt_none rfl _) rfl (.int .i64 ((m : Nat) : Int)) (fun _ _ => exec_move (.tmp 11) (.inl rfl) _ rfl) ?_
          refine k0 (wt_none rfl _) rfl (.int .u64 ((c + (at64 o m) : Nat) : Int)) (fun _ _ => exec_move (.tmp 7) (.inl rfl) _ rfl) ?_
          refine k0 (wt_none rfl _) rfl (.int .u64 (((c + (at64 o m)) % 65536 : Nat) : Int)) (fun _ _ => x_rem (.tmp 79) (.const (.int .u64 65536)) _ _ rfl (c + (at64 o m)) 65536 ((c + (at64 o m)) % 65536) .u64 (by exact ⟨rfl, by omega⟩) rfl rfl) ?_
          refine k1 (wt_none rfl _) rfl (eP u5 m) (x_ep Tryd.sw (.tmp 77) (.tmp 78) rfl (mm20.rc 0 rfl) m .i64 m (Nat.mul_one _) (by omega) rfl _ rfl rfl) ?_
          refine ks (wt_none rfl _) rfl rfl (x_set (.tmp 81) (.tmp 80) rfl mm20 0 rfl m [.int .u64 (((c + (at64 o m)) % 65536 : Nat) : Int)] (c64 (o.set m ((c + at64 o m) % 65536))) Tryd.one64 (show _ + 1 ≤ _ by rw [c64_length]; rw [hol]; omega) (Nat.zero_lt_succ _) (fun _ h => by rw [List.mem_singleton.1 h]; rfl) (by rw [cells_set64 (by rw [hol]; omega)]) rfl (.int .u64 (((c + (at64 o m)) % 65536 : Nat) : Int)) rfl rfl) ?_
          rintro ww27 mm28
          have mm29 : Mo w ww27 [.own 34 1 u5 (d.length + 3) (c64 (o.set m ((c + at64 o m) % 65536)))] := mm28
          refine ⟨trivial, ?_⟩
          refine kend ?_
          refine th_n ?_
          refine cz [(0, v), (1, .int .u64 ((x : Nat) : Int)), (5, u5), (6, .int .i64 ((i : Nat) : Int)), (7, .int .u64 ((c + (at64 o m) : Nat) : Int)), (11, .int .i64 ((m : Nat) : Int)), (68, .bool true)] ⟨rfl, rfl, rfl, rfl, rfl, rfl, rfl, trivial⟩ (fun _ => ?_)
          refine rp [0, 0, 0] ?_
          refine k0 (wt_none rfl _) rfl (.int .u64 ((c + (at64 o m) : Nat) : Int)) (fun _ _ => exec_move (.tmp 7) (.inl rfl) _ rfl) ?_
          refine k0 (wt_none rfl _) rfl (.int .u64 (((c + (at64 o m)) / 65536 : Nat) : Int)) (fun _ _ => x_quo (.tmp 82) (.const (.int .u64 65536)) _ _ rfl (c + (at64 o m)) 65536 ((c + (at64 o m)) / 65536) .u64 (by exact ⟨rfl, by omega, (show _ < 18446744073709551616 by omega)⟩) rfl rfl) ?_
          refine k0 (wt_none rfl _) rfl (.int .u64 (((c + (at64 o m)) / 65536 : Nat) : Int)) (fun _ _ => exec_move (.tmp 83) (.inr rfl) _ rfl) ?_
          refine kend ?_
          refine ib_n ?_
          refine th_n ?_
          refine cz [(0, v), (1, .int .u64 ((x : Nat) : Int)), (5, u5), (6, .int .i64 ((i : Nat) : Int)), (7, .int .u64 (((c + (at64 o m)) / 65536 : Nat) : Int)), (11, .int .i64 ((m : Nat) : Int)), (68, .bool true)] ⟨rfl, rfl, rfl, rfl, rfl, rfl, rfl, trivial⟩ (fun _ => ?_)
          refine rp [0, 0, 0] ?_
          refine k0 (wt_none rfl _) rfl (.int .i64 ((m : Nat) : Int)) (fun _ _ => exec_move (.tmp 11) (.inl rfl) _ rfl) ?_
          refine k0 (wt_none rfl _) rfl (.int .i64 ((m + 1 : Nat) : Int)) (fun _ _ => x_add (.tmp 69) (.const (.int .i64 1)) _ _ rfl m 1 (m + 1) .i64 (by exact ⟨by omega, (show _ < 9223372036854775808 by omega)⟩) rfl rfl) ?_
          refine k0 (wt_none rfl _) rfl (.int .i64 ((m + 1 : Nat) : Int)) (fun _ _ => exec_move (.tmp 70) (.inr rfl) _ rfl) ?_
          refine kend ?_
          refine th_n ?_
          exact ⟨_, (⟨(o.set m ((c + at64 o m) % 65536)), ((c + at64 o m) / 65536), m + 1⟩ : List Nat × Nat × Nat), rfl, ⟨rfl, rfl, rfl, rfl, rfl, rfl, trivial⟩, ⟨(show crF (d.length + 3 - (m + 1)) (o.set m ((c + at64 o m) % 65536)) ((c + at64 o m) / 65536) (m + 1) = tmI d x (i + 1) from (by rw [← hh22]; exact (crF_step hm0 hc0).symm)), (show D16 (o.set m ((c + at64 o m) % 65536)) from (hh23.set _ (Nat.mod_lt _ (by decide)))), (show (o.set m ((c + at64 o m) % 65536)).length = d.length + 3 from (by rw [List.length_set]; exact hh24)), (show ((c + at64 o m) / 65536) ≤ 65536 from (by omega)), (show (m + 1) ≤ d.length + 3 from (by omega)), (show Mo w ww27 [.own 34 1 u5 (d.length + 3) (c64 (o.set m ((c + at64 o m) % 65536)))] from mm29)⟩, (show d.length + 3 - (m + 1) < d.length + 3 - m by omega)⟩
        · skip
          refine cz [(0, v), (1, .int .u64 ((x : Nat) : Int)), (5, u5), (6, .int .i64 ((i : Nat) : Int)), (7, .int .u64 ((c : Nat) : Int)), (11, .int .i64 ((m : Nat) : Int))] ⟨rfl, rfl, rfl, rfl, rfl, rfl, trivial⟩ (fun _ => ?_)
          refine rp [0, 0, 0, 0, 0, 1, 0, 0] ?_
          refine k0 (wt_none rfl _) rfl (.int .u64 ((c : Nat) : Int)) (fun _ _ => exec_move (.tmp 7) (.inl rfl) _ rfl) ?_
          refine k0 (wt_none rfl _) rfl (.bool true) (fun _ _ => x_gtr_t (.tmp 61) (.const (.int .u64 0)) _ _ rfl c 0 .u64 (by omega) rfl rfl) ?_
          refine k0 (wt_none rfl _) rfl (.bool true) (fun _ _ => exec_move (.tmp 62) (.inl rfl) _ rfl) ?_
          refine k0 (wt_some rfl rfl rfl rfl) rfl (.int .i64 ((m : Nat) : Int)) (fun _ _ => exec_move (.tmp 11) (.inl rfl) _ rfl) ?_
          refine k0 (wt_some rfl rfl rfl rfl) rfl (u5) (fun _ _ => exec_move (.tmp 5) (.inl rfl) _ rfl) ?_
          refine k1 (wt_some rfl rfl rfl rfl) rfl (.int .i64 ((d.length + 3 : Nat) : Int)) (x_len Tryd.sw.sl (.tmp 65) rfl (mm20.rc 0 rfl) rfl) ?_
          refine k0 (wt_some rfl rfl rfl rfl) rfl (.bool false) (fun _ _ => x_lss_f (.tmp 64) (.tmp 66) _ _ rfl m (d.length + 3) .i64 (by omega) rfl rfl) ?_
          refine k0 (wt_none rfl _) rfl (.bool false) (fun _ _ => x_pick (.tmp 63) (.tmp 67) (.const (.bool false)) rfl true _ rfl rfl) ?_
          refine kend ?_
          refine th_n ?_
          refine cdf rfl ?_
          refine ex ?_
          refine th_x ?_
          refine th_x ?_
          refine ib_x ?_
          refine ib_n ?_
          refine th_n ?_
          refine cz [(0, v), (1, .int .u64 ((x : Nat) : Int)), (5, u5), (6, .int .i64 ((i : Nat) : Int)), (7, .int .u64 ((c : Nat) : Int)), (11, .int .i64 ((m : Nat) : Int)), (68, .bool false)] ⟨rfl, rfl, rfl, rfl, rfl, rfl, rfl, trivial⟩ (fun _ => ?_)
          refine rp [0, 0, 0] ?_
          refine k0 (wt_none rfl _) rfl (.int .i64 ((i : Nat) : Int)) (fun _ _ => exec_move (.tmp 6) (.inl rfl) _ rfl) ?_
          refine k0 (wt_none rfl _) rfl (.int .i64 ((i + 1 : Nat) : Int)) (fun _ _ => x_add (.tmp 20) (.const (.int .i64 1)) _ _ rfl i 1 (i + 1) .i64 (by exact ⟨by omega, (show _ < 9223372036854775808 by omega)⟩) rfl rfl) ?_
          refine k0 (wt_none rfl _) rfl (.int .i64 ((i + 1 : Nat) : Int)) (fun _ _ => exec_move (.tmp 21) (.inr rfl) _ rfl) ?_
          refine kend ?_
          refine th_n ?_
          have mm30 : Mo w ww21 [.own 34 1 u5 (d.length + 3) (c64 (tmI d x (i + 1)))] := (by have h := mm20; rw [show c64 o = c64 (tmI d x (i + 1)) from (by rw [← hh22, crF_end (.inr hm0)])] at h; exact h)
          exact ⟨_, (⟨i + 1, u5⟩ : Nat × Value), rfl, ⟨rfl, rfl, rfl, rfl, trivial⟩, ⟨(show (i + 1) ≤ d.length from (by omega)), (show Mo w ww21 [.own 34 1 u5 (d.length + 3) (c64 (tmI d x (i + 1)))] from mm30)⟩, (show d.length - (i + 1) < d.length - i by omega)⟩
      · skip
        by_cases hm0 : m < d.length + 3
        · skip
          refine cz [(0, v), (1, .int .u64 ((x : Nat) : Int)), (5, u5), (6, .int .i64 ((i : Nat) : Int)), (7, .int .u64 ((c : Nat) : Int)), (11, .int .i64 ((m : Nat) : Int))] ⟨rfl, rfl, rfl, rfl, rfl, rfl, trivial⟩ (fun _ => ?_)
          refine rp [0, 0, 0, 0, 0, 0, 0, 0] ?_
          refine k0 (wt_none rfl _) rfl (.int .u64 ((c : Nat) : Int)) (fun _ _ => exec_move (.tmp 7) (.inl rfl) _ rfl) ?_
          refine k0 (wt_none rfl _) rfl (.bool false) (fun _ _ => x_gtr_f (.tmp 61) (.const (.int .u64 0)) _ _ rfl c 0 .u64 (by omega) rfl rfl) ?_
          refine k0 (wt_none rfl _) rfl (.bool false) (fun _ _ => exec_move (.tmp 62) (.inl rfl) _ rfl) ?_
          refine kn (wt_not rfl rfl rfl rfl) ?_
          refine kn (wt_not rfl rfl rfl rfl) ?_
          refine kn (wt_not rfl rfl rfl rfl) ?_
          refine kn (wt_not rfl rfl rfl rfl) ?_
          refine k0 (wt_none rfl _) rfl (.bool false) (fun _ _ => x_pick (.tmp 63) (.tmp 67) (.const (.bool false)) rfl false _ rfl rfl) ?_
          refine kend ?_
          refine th_n ?_
          refine cdf rfl ?_
          refine ex ?_
          refine th_x ?_
          refine th_x ?_
          refine ib_x ?_
          refine ib_n ?_
          refine th_n ?_
          refine cz [(0, v), (1, .int .u64 ((x : Nat) : Int)), (5, u5), (6, .int .i64 ((i : Nat) : Int)), (7, .int .u64 ((c : Nat) : Int)), (11, .int .i64 ((m : Nat) : Int)), (68, .bool false)] ⟨rfl, rfl, rfl, rfl, rfl, rfl, rfl, trivial⟩ (fun _ => ?_)
          refine rp [0, 0, 0] ?_
          refine k0 (wt_none rfl _) rfl (.int .i64 ((i : Nat) : Int)) (fun _ _ => exec_move (.tmp 6) (.inl rfl) _ rfl) ?_
          refine k0 (wt_none rfl _) rfl (.int .i64 ((i + 1 : Nat) : Int)) (fun _ _ => x_add (.tmp 20) (.const (.int .i64 1)) _ _ rfl i 1 (i + 1) .i64 (by exact ⟨by omega, (show _ < 9223372036854775808 by omega)⟩) rfl rfl) ?_
          refine k0 (wt_none rfl _) rfl (.int .i64 ((i + 1 : Nat) : Int)) (fun _ _ => exec_move (.tmp 21) (.inr rfl) _ rfl) ?_
          refine kend ?_
          refine th_n ?_
          have mm31 : Mo w ww21 [.own 34 1 u5 (d.length + 3) (c64 (tmI d x (i + 1)))] := (by have h := mm20; rw [show c64 o = c64 (tmI d x (i + 1)) from (by rw [← hh22, crF_end (.inl hc0)])] at h; exact h)
          exact ⟨_, (⟨i + 1, u5⟩ : Nat × Value), rfl, ⟨rfl, rfl, rfl, rfl, trivial⟩, ⟨(show (i + 1) ≤ d.length from (by omega)), (show Mo w ww21 [.own 34 1 u5 (d.length + 3) (c64 (tmI d x (i + 1)))] from mm31)⟩, (show d.length - (i + 1) < d.length - i by omega)⟩
        · skip
          refine cz [(0, v), (1, .int .u64 ((x : Nat) : Int)), (5, u5), (6, .int .i64 ((i : Nat) : Int)), (7, .int .u64 ((c : Nat) : Int)), (11, .int .i64 ((m : Nat) : Int))] ⟨rfl, rfl, rfl, rfl, rfl, rfl, trivial⟩ (fun _ => ?_)
          refine rp [0, 0, 0, 0, 0, 0, 0, 0] ?_
          refine k0 (wt_none rfl _) rfl (.int .u64 ((c : Nat) : Int)) (fun _ _ => exec_move (.tmp 7) (.inl rfl) _ rfl) ?_
          refine k0 (wt_none rfl _) rfl (.bool false) (fun _ _ => x_gtr_f (.tmp 61) (.const (.int .u64 0)) _ _ rfl c 0 .u64 (by omega) rfl rfl) ?_
          refine k0 (wt_none rfl _) rfl (.bool false) (fun _ _ => exec_move (.tmp 62) (.inl rfl) _ rfl) ?_
          refine kn (wt_not rfl rfl rfl rfl) ?_
          refine kn (wt_not rfl rfl rfl rfl) ?_
          refine kn (wt_not rfl rfl rfl rfl) ?_
          refine kn (wt_not rfl rfl rfl rfl) ?_
          refine k0 (wt_none rfl _) rfl (.bool false) (fun _ _ => x_pick (.tmp 63) (.tmp 67) (.const (.bool false)) rfl false _ rfl rfl) ?_
          refine kend ?_
          refine th_n ?_
          refine cdf rfl ?_
          refine ex ?_
          refine th_x ?_
          refine th_x ?_
          refine ib_x ?_
          refine ib_n ?_
          refine th_n ?_
          refine cz [(0, v), (1, .int .u64 ((x : Nat) : Int)), (5, u5), (6, .int .i64 ((i : Nat) : Int)), (7, .int .u64 ((c : Nat) : Int)), (11, .int .i64 ((m : Nat) : Int)), (68, .bool false)] ⟨rfl, rfl, rfl, rfl, rfl, rfl, rfl, trivial⟩ (fun _ => ?_)
          refine rp [0, 0, 0] ?_
          refine k0 (wt_none rfl _) rfl (.int .i64 ((i : Nat) : Int)) (fun _ _ => exec_move (.tmp 6) (.inl rfl) _ rfl) ?_
          refine k0 (wt_none rfl _) rfl (.int .i64 ((i + 1 : Nat) : Int)) (fun _ _ => x_add (.tmp 20) (.const (.int .i64 1)) _ _ rfl i 1 (i + 1) .i64 (by exact ⟨by omega, (show _ < 9223372036854775808 by omega)⟩) rfl rfl) ?_
          refine k0 (wt_none rfl _) rfl (.int .i64 ((i + 1 : Nat) : Int)) (fun _ _ => exec_move (.tmp 21) (.inr rfl) _ rfl) ?_
          refine kend ?_
          refine th_n ?_
          have mm32 : Mo w ww21 [.own 34 1 u5 (d.length + 3) (c64 (tmI d x (i + 1)))] := (by have h := mm20; rw [show c64 o = c64 (tmI d x (i + 1)) from (by rw [← hh22, crF_end (.inl hc0)])] at h; exact h)
          exact ⟨_, (⟨i + 1, u5⟩ : Nat × Value), rfl, ⟨rfl, rfl, rfl, rfl, trivial⟩, ⟨(show (i + 1) ≤ d.length from (by omega)), (show Mo w ww21 [.own 34 1 u5 (d.length + 3) (c64 (tmI d x (i + 1)))] from mm32)⟩, (show d.length - (i + 1) < d.length - i by omega)⟩
  · -- behind the loop
    obtain rfl : i = d.length := by omega
    refine sq ?_
    refine sq ?_
    refine cz [(0, v), (1, .int .u64 ((x : Nat) : Int)), (5, u5), (6, .int .i64 ((d.length : Nat) : Int))] ⟨rfl, rfl, rfl, rfl, trivial⟩ (fun _ => ?_)
    refine rp [0, 0, 1, 0] ?_
    refine k0 (wt_none rfl _) rfl (.int .i64 ((d.length : Nat) : Int)) (fun _ _ => exec_move (.tmp 6) (.inl rfl) _ rfl) ?_
    refine k0 (wt_none rfl _) rfl (v) (fun _ _ => exec_move (.tmp 0) (.inl rfl) _ rfl) ?_
    refine k1 (wt_none rfl _) rfl (.int .i64 ((d.length : Nat) : Int)) (x_len Tryd.sw.sl (.tmp 17) rfl (Rc.at hv mm5) rfl) ?_
    refine k0 (wt_none rfl _) rfl (.bool false) (fun _ _ => x_lss_f (.tmp 16) (.tmp 18) _ _ rfl d.length d.length .i64 (by omega) rfl rfl) ?_
    refine kend ?_
    refine th_n ?_
    refine cdf rfl ?_
    refine ex ?_
    refine th_x ?_
    refine th_x ?_
    refine ib_x ?_
    refine th_n ?_
    refine sq ?_
    refine cz [(0, v), (1, .int .u64 ((x : Nat) : Int)), (5, u5), (6, .int .i64 ((d.length : Nat) : Int)), (19, .bool false)] ⟨rfl, rfl, rfl, rfl, rfl, trivial⟩ (fun _ => ?_)
    refine rp [0, 0] ?_
    refine k0 (wt_none rfl _) rfl (u5) (fun _ _ => exec_move (.tmp 5) (.inl rfl) _ rfl) ?_
    refine k0 (wt_none rfl _) rfl (u5) (fun _ _ => exec_move (.tmp 84) (.inr rfl) _ rfl) ?_
    refine kend ?_
    refine th_n ?_
    refine re ?_
    refine rt1 rfl ?_
    exact ⟨u5, rfl, mm5⟩

set_option maxHeartbeats 1000000 in
theorem least_true (x p : Nat) (w : World) (hx : x < 137438953472) :
    Calls Tryd.prog 38 #[.int .u64 ((x : Nat) : Int), .int .u64 ((p : Nat) : Int), .bool true] w fun e w' => e = .returned (.bool (lst x p true)) ∧ Below w.heap.size w w' := by
  have hD : (tm (tm (d3 x) x) x).length = 9 := by rw [tm_length, tm_length]; rfl
  have hE : (List.replicate 6 0 ++ [p]).length = 6 + 1 := rfl
  have m0 := Mo.start w
  refine enter [.int .u64 ((x : Nat) : Int), .int .u64 ((p : Nat) : Int), .bool true] 50 Tryd.func38 rfl Tryd.ntmps38 (Nat.le_of_ble_eq_true rfl) ?_
  refine sq ?_
  refine cz [(0, .int .u64 ((x : Nat) : Int)), (1, .int .u64 ((p : Nat) : Int)), (2, .bool true)] ⟨rfl, rfl, rfl, trivial⟩ (fun _ => ?_)
  refine rp [0] ?_
  refine k0 (wt_none rfl _) rfl (.bool false) (fun _ _ => exec_move (.const (.bool false)) (.inr rfl) _ rfl) ?_
  refine kend ?_
  refine th_n ?_
  refine sq ?_
  refine cz [(0, .int .u64 ((x : Nat) : Int)), (1, .int .u64 ((p : Nat) : Int)), (2, .bool true), (6, .bool false)] ⟨rfl, rfl, rfl, rfl, trivial⟩ (fun _ => ?_)
  refine rp [0, 0, 0, 0, 0, 0, 0, 0, 2, 0, 2, 0] ?_
  refine k0 (wt_none rfl _) rfl (.int .u64 ((x : Nat) : Int)) (fun _ _ => exec_move (.tmp 0) (.inl rfl) _ rfl) ?_
  refine k0 (wt_none rfl _) rfl (.int .u64 ((x % 65536 : Nat) : Int)) (fun _ _ => x_rem (.tmp 13) (.const (.int .u64 65536)) _ _ rfl x 65536 (x % 65536) .u64 (by exact ⟨rfl, by omega⟩) rfl rfl) ?_
  refine k0 (wt_none rfl _) rfl (.int .u64 ((x : Nat) : Int)) (fun _ _ => exec_move (.tmp 0) (.inl rfl) _ rfl) ?_
  refine k0 (wt_none rfl _) rfl (.int .u64 ((x / 65536 : Nat) : Int)) (fun _ _ => x_quo (.tmp 15) (.const (.int .u64 65536)) _ _ rfl x 65536 (x / 65536) .u64 (by exact ⟨rfl, by omega, (show _ < 18446744073709551616 by omega)⟩) rfl rfl) ?_
  refine k0 (wt_none rfl _) rfl (.int .u64 (((x / 65536) % 65536 : Nat) : Int)) (fun _ _ => x_rem (.tmp 16) (.const (.int .u64 65536)) _ _ rfl (x / 65536) 65536 ((x / 65536) % 65536) .u64 (by exact ⟨rfl, by omega⟩) rfl rfl) ?_
  refine k0 (wt_none rfl _) rfl (.int .u64 ((x : Nat) : Int)) (fun _ _ => exec_move (.tmp 0) (.inl rfl) _ rfl) ?_
  refine k0 (wt_none rfl _) rfl (.int .u64 ((x / 65536 : Nat) : Int)) (fun _ _ => x_quo (.tmp 18) (.const (.int .u64 65536)) _ _ rfl x 65536 (x / 65536) .u64 (by exact ⟨rfl, by omega, (show _ < 18446744073709551616 by omega)⟩) rfl rfl) ?_
  refine k0 (wt_none rfl _) rfl (.int .u64 (((x / 65536) / 65536 : Nat) : Int)) (fun _ _ => x_quo (.tmp 19) (.const (.int .u64 65536)) _ _ rfl (x / 65536) 65536 ((x / 65536) / 65536) .u64 (by exact ⟨rfl, by omega, (show _ < 18446744073709551616 by omega)⟩) rfl rfl) ?_
  refine k2 (wt_none rfl _) rfl (x_bld Tryd.sw 3 _ rfl m0 (c64 [x % 65536, (x / 65536) % 65536, (x / 65536) / 65536]) (c64 [x % 65536, (x / 65536) % 65536, (x / 65536) / 65536]) rfl (by decide) (one_size (cells_oc64 _)) (one_flat (cells_oc64 _)) rfl) ?_
  rintro vv1 ww2 mm3
  have mm4 : Mo w ww2 [.own 34 1 vv1 3 (c64 (d3 x))] := (by have h := mm3; rw [(show [x % 65536, (x / 65536) % 65536, (x / 65536) / 65536] = d3 x by rfl)] at h; exact h)
  refine ⟨trivial, ?_⟩
  refine k0 (wt_none rfl _) rfl (.int .u64 ((x : Nat) : Int)) (fun _ _ => exec_move (.tmp 0) (.inl rfl) _ rfl) ?_
  refine kc (wt_none rfl _) rfl (x_cl2 (v0 := vv1) (v1 := .int .u64 ((x : Nat) : Int)) rfl rfl rfl (by kernel_rfl)) (times_doc vv1 (d3 x) x 3 _ rfl (mm4.rc 0 rfl) (d3_ok hx) hx (by decide)) ?_
  rintro _ ww5 ⟨vv7, rfl, mm6⟩
  have mm8 : Mo w ww5 [.own 34 1 vv7 6 (c64 (tm (d3 x) x)), .own 34 1 vv1 3 (c64 (d3 x))] := mm4.join mm6
  refine ⟨_, rfl, trivial, ?_⟩
  refine k0 (wt_none rfl _) rfl (vv7) (fun _ _ => exec_move (.tmp 23) (.inr rfl) _ rfl) ?_
  refine kend ?_
  refine th_n ?_
  refine sq ?_
  refine cz [(0, .int .u64 ((x : Nat) : Int)), (1, .int .u64 ((p : Nat) : Int)), (2, .bool true), (6, .bool false), (7, vv7)] ⟨rfl, rfl, rfl, rfl, rfl, trivial⟩ (fun _ => ?_)
  refine rp [0] ?_
  refine k0 (wt_none rfl _) rfl (.int .i64 4) (fun _ _ => exec_move (.const (.int .i64 4)) (.inr rfl) _ rfl) ?_
  refine kend ?_
  refine th_n ?_
  refine sq ?_
  refine sq ?_
  refine cz [(0, .int .u64 ((x : Nat) : Int)), (1, .int .u64 ((p : Nat) : Int)), (2, .bool true), (6, .bool false), (7, vv7), (8, .int .i64 4)] ⟨rfl, rfl, rfl, rfl, rfl, rfl, trivial⟩ (fun _ => ?_)
  refine rp [0] ?_
  refine k0 (wt_none rfl _) rfl (.bool true) (fun _ _ => exec_move (.tmp 2) (.inl rfl) _ rfl) ?_
  refine kend ?_
  refine th_n ?_
  refine cdt rfl ?_
  refine sq ?_
  refine cz [(0, .int .u64 ((x : Nat) : Int)), (1, .int .u64 ((p : Nat) : Int)), (2, .bool true), (6, .bool false), (7, vv7), (8, .int .i64 4), (24, .bool true)] ⟨rfl, rfl, rfl, rfl, rfl, rfl, rfl, trivial⟩ (fun _ => ?_)
  refine rp [0, 0, 2, 0] ?_
  refine k0 (wt_none rfl _) rfl (vv7) (fun _ _ => exec_move (.tmp 7) (.inl rfl) _ rfl) ?_
  refine k0 (wt_none rfl _) rfl (.int .u64 ((x : Nat) : Int)) (fun _ _ => exec_move (.tmp 0) (.inl rfl) _ rfl) ?_
  refine kc (wt_none rfl _) rfl (x_cl2 (v0 := vv7) (v1 := .int .u64 ((x : Nat) : Int)) rfl rfl rfl (by kernel_rfl)) (times_doc vv7 (tm (d3 x) x) x 6 _ (tm_length _ _) (mm8.rc 0 rfl) (tm_ok x (d3_ok hx)) hx (by decide)) ?_
  rintro _ ww9 ⟨vv11, rfl, mm10⟩
  have mm12 : Mo w ww9 [.own 34 1 vv11 9 (c64 (tm (tm (d3 x) x) x)), .own 34 1 vv7 6 (c64 (tm (d3 x) x)), .own 34 1 vv1 3 (c64 (d3 x))] := mm8.join mm10
  refine ⟨_, rfl, trivial, ?_⟩
  refine k0 (wt_none rfl _) rfl (vv11) (fun _ _ => exec_move (.tmp 27) (.inr rfl) _ rfl) ?_
  refine kend ?_
  refine th_n ?_
  refine cz [(0, .int .u64 ((x : Nat) : Int)), (1, .int .u64 ((p : Nat) : Int)), (2, .bool true), (6, .bool false), (7, vv11), (8, .int .i64 4), (24, .bool true)] ⟨rfl, rfl, rfl, rfl, rfl, rfl, rfl, trivial⟩ (fun _ => ?_)
  refine rp [0] ?_
  refine k0 (wt_none rfl _) rfl (.int .i64 6) (fun _ _ => exec_move (.const (.int .i64 6)) (.inr rfl) _ rfl) ?_
  refine kend ?_
  refine th_n ?_
  refine sq ?_
  refine cz [(0, .int .u64 ((x : Nat) : Int)), (1, .int .u64 ((p : Nat) : Int)), (2, .bool true), (6, .bool false), (7, vv11), (8, .int .i64 6), (24, .bool true)] ⟨rfl, rfl, rfl, rfl, rfl, rfl, rfl, trivial⟩ (fun _ => ?_)
  refine rp [0, 2, 0] ?_
  refine k0 (wt_none rfl _) rfl (.int .i64 6) (fun _ _ => exec_move (.tmp 8) (.inl rfl) _ rfl) ?_
  refine k2 (wt_none rfl _) rfl (x_mk Tryd.sw (.tmp 28) (.tmp 28) rfl mm12 .i64 .i64 6 (by omega) rfl rfl) ?_
  rintro vv13 ww14 mm15
  rw [made64] at mm15
  refine ⟨trivial, ?_⟩
  refine k0 (wt_none rfl _) rfl (vv13) (fun _ _ => exec_move (.tmp 29) (.inr rfl) _ rfl) ?_
  refine kend ?_
  refine th_n ?_
  refine sq ?_
  refine cz [(0, .int .u64 ((x : Nat) : Int)), (1, .int .u64 ((p : Nat) : Int)), (2, .bool true), (6, .bool false), (7, vv11), (8, .int .i64 6), (9, vv13), (24, .bool true)] ⟨rfl, rfl, rfl, rfl, rfl, rfl, rfl, rfl, trivial⟩ (fun _ => ?_)
  refine rp [0, 0, 2, 2, 0] ?_
  refine k0 (wt_none rfl _) rfl (vv13) (fun _ _ => exec_move (.tmp 9) (.inl rfl) _ rfl) ?_
  refine k0 (wt_none rfl _) rfl (.int .u64 ((p : Nat) : Int)) (fun _ _ => exec_move (.tmp 1) (.inl rfl) _ rfl) ?_
  refine k2 (wt_none rfl _) rfl (x_bld Tryd.sw 1 _ rfl mm15 (c64 [p]) (c64 [p]) rfl (by decide) (one_size (cells_oc64 _)) (one_flat (cells_oc64 _)) rfl) ?_
  rintro vv16 ww17 mm18
  refine ⟨trivial, ?_⟩
  refine k2 (wt_none rfl _) rfl (x_app Tryd.sw (.tmp 30) (.tmp 32) rfl mm18 1 rfl rfl (mm18.rc 0 rfl) rfl (c64_one _) (by omega) rfl) ?_
  rintro vv19 ww20 mm21
  have mm22 : Mo w ww20 [.own 34 1 vv16 1 (c64 ([p])), .own 34 1 vv19 (6 + 1) (c64 ((List.replicate 6 0) ++ ([p]))), .own 34 1 vv11 9 (c64 (tm (tm (d3 x) x) x)), .own 34 1 vv7 6 (c64 (tm (d3 x) x)), .own 34 1 vv1 3 (c64 (d3 x))] := (by have h := mm21; rw [← c64_append] at h; exact h)
  refine ⟨trivial, ?_⟩
  refine k0 (wt_none rfl _) rfl (vv19) (fun _ _ => exec_move (.tmp 33) (.inr rfl) _ rfl) ?_
  refine kend ?_
  refine th_n ?_
  refine sq ?_
  refine sq ?_
  refine cz [(0, .int .u64 ((x : Nat) : Int)), (1, .int .u64 ((p : Nat) : Int)), (2, .bool true), (6, .bool false), (7, vv11), (8, .int .i64 6), (9, vv19), (24, .bool true)] ⟨rfl, rfl, rfl, rfl, rfl, rfl, rfl, rfl, trivial⟩ (fun _ => ?_)
  refine rp [0] ?_
  refine k0 (wt_none rfl _) rfl (.int .i64 11) (fun _ _ => exec_move (.const (.int .i64 11)) (.inr rfl) _ rfl) ?_
  refine kend ?_
  refine th_n ?_
  refine bk ?_
  refine lp (fun (xs : Nat) => [(7, vv11), (9, vv19), (10, .int .i64 (((xs : Nat) : Int) - 1))]) (fun (xs : Nat) w1 => (xs ≤ 12) ∧ (cmpF (tm (tm (d3 x) x) x) (List.replicate 6 0 ++ [p]) xs = lst x p true) ∧ Mo w w1 [.own 34 1 vv11 9 (c64 (tm (tm (d3 x) x) x)), .own 34 1 vv19 (6 + 1) (c64 (List.replicate 6 0 ++ [p]))]) (fun (xs : Nat) => xs) 12 ⟨rfl, rfl, rfl, trivial⟩ ⟨(show 12 ≤ 12 from (by decide)), (show cmpF (tm (tm (d3 x) x) x) (List.replicate 6 0 ++ [p]) 12 = lst x p true from rfl), (show Mo w ww20 [.own 34 1 vv11 9 (c64 (tm (tm (d3 x) x) x)), .own 34 1 vv19 (6 + 1) (c64 (List.replicate 6 0 ++ [p]))] from mm22.pick [2, 1] (by decide) ⟨rfl, rfl, trivial⟩)⟩ ?_
  rintro k _ ww24 ⟨hh25, hh26, mm23⟩
  replace hh25 : k ≤ 12 := hh25
  replace hh26 : cmpF (tm (tm (d3 x) x) x) (List.replicate 6 0 ++ [p]) k = lst x p true := hh26
  replace mm23 : Mo w ww24 [.own 34 1 vv11 9 (c64 (tm (tm (d3 x) x) x)), .own 34 1 vv19 (6 + 1) (c64 (List.replicate 6 0 ++ [p]))] := mm23
  refine cz [(7, vv11), (9, vv19), (10, .int .i64 (((k : Nat) : Int) - 1))] ⟨rfl, rfl, rfl, trivial⟩ (fun _ => ?_)
  by_cases hk0 : k > 0
  · -- round
    refine sq ?_
    refine sq ?_
    refine cz [(7, vv11), (9, vv19), (10, .int .i64 (((k : Nat) : Int) - 1))] ⟨rfl, rfl, rfl, trivial⟩ (fun _ => ?_)
    refine rp [0, 0] ?_
    refine k0 (wt_none rfl _) rfl (.int .i64 (((k : Nat) : Int) - 1)) (fun _ _ => exec_move (.tmp 10) (.inl rfl) _ rfl) ?_
    refine k0 (wt_none rfl _) rfl (.bool true) (fun _ _ => x_geqz (.tmp 34) (.const (.int .i64 0)) _ rfl (((k : Nat) : Int) - 1) 0 true (by simp; omega) .i64 rfl rfl) ?_
    refine kend ?_
    refine th_n ?_
    refine cdt rfl ?_
    refine sk ?_
    refine th_n ?_
    refine sq ?_
    refine bk ?_
    refine sq ?_
    refine cz [(7, vv11), (9, vv19), (10, .int .i64 (((k : Nat) : Int) - 1)), (35, .bool true)] ⟨rfl, rfl, rfl, rfl, trivial⟩ (fun _ => ?_)
    refine rp [0, 0, 2, 0, 0, 2, 0, 0] ?_
    refine k0 (wt_none rfl _) rfl (vv11) (fun _ _ => exec_move (.tmp 7) (.inl rfl) _ rfl) ?_
    refine k0 (wt_none rfl _) rfl (.int .i64 ((k - 1 : Nat) : Int)) (fun _ _ => by rw [show ((k - 1 : Nat) : Int) = ((k : Nat) : Int) - 1 from by omega]; exact exec_move (.tmp 10) (.inl rfl) _ rfl) ?_
    refine kq (wt_none rfl _) rfl (x_cl2 (v0 := vv11) (v1 := .int .i64 ((k - 1 : Nat) : Int)) rfl rfl rfl (by kernel_rfl)) (.int .u64 ((at64 (tm (tm (d3 x) x) x) (k - 1) : Nat) : Int)) (digit_doc vv11 (tm (tm (d3 x) x) x) 9 (k - 1) _ hD (mm23.rc 0 rfl) (by omega)) trivial ?_
    refine k0 (wt_none rfl _) rfl (vv19) (fun _ _ => exec_move (.tmp 9) (.inl rfl) _ rfl) ?_
    refine k0 (wt_none rfl _) rfl (.int .i64 ((k - 1 : Nat) : Int)) (fun _ _ => by rw [show ((k - 1 : Nat) : Int) = ((k : Nat) : Int) - 1 from by omega]; exact exec_move (.tmp 10) (.inl rfl) _ rfl) ?_
    refine kq (wt_none rfl _) rfl (x_cl2 (v0 := vv19) (v1 := .int .i64 ((k - 1 : Nat) : Int)) rfl rfl rfl (by kernel_rfl)) (.int .u64 ((at64 (List.replicate 6 0 ++ [p]) (k - 1) : Nat) : Int)) (digit_doc vv19 (List.replicate 6 0 ++ [p]) (6 + 1) (k - 1) _ hE (mm23.rc 1 rfl) (by omega)) trivial ?_
    refine k0 (wt_none rfl _) rfl (.int .u64 ((at64 (tm (tm (d3 x) x) x) (k - 1) : Nat) : Int)) (fun _ _ => exec_move (.tmp 40) (.inr rfl) _ rfl) ?_
    refine k0 (wt_none rfl _) rfl (.int .u64 ((at64 (List.replicate 6 0 ++ [p]) (k - 1) : Nat) : Int)) (fun _ _ => exec_move (.tmp 43) (.inr rfl) _ rfl) ?_
    refine kend ?_
    refine th_n ?_
    refine sq ?_
    by_cases hab : at64 (tm (tm (d3 x) x) x) (k - 1) = at64 (List.replicate 6 0 ++ [p]) (k - 1)
    · skip
      refine cz [(7, vv11), (9, vv19), (10, .int .i64 (((k : Nat) : Int) - 1)), (11, .int .u64 ((at64 (tm (tm (d3 x) x) x) (k - 1) : Nat) : Int)), (12, .int .u64 ((at64 (List.replicate 6 0 ++ [p]) (k - 1) : Nat) : Int)), (35, .bool true)] ⟨rfl, rfl, rfl, rfl, rfl, rfl, trivial⟩ (fun _ => ?_)
      refine rp [0, 0, 0] ?_
      refine k0 (wt_none rfl _) rfl (.int .u64 ((at64 (tm (tm (d3 x) x) x) (k - 1) : Nat) : Int)) (fun _ _ => exec_move (.tmp 11) (.inl rfl) _ rfl) ?_
      refine k0 (wt_none rfl _) rfl (.int .u64 ((at64 (List.replicate 6 0 ++ [p]) (k - 1) : Nat) : Int)) (fun _ _ => exec_move (.tmp 12) (.inl rfl) _ rfl) ?_
      refine k0 (wt_none rfl _) rfl (.bool false) (fun _ _ => x_neq_f (.tmp 44) (.tmp 45) _ _ rfl (at64 (tm (tm (d3 x) x) x) (k - 1)) (at64 (List.replicate 6 0 ++ [p]) (k - 1)) .u64 (by omega) rfl rfl) ?_
      refine kend ?_
      refine th_n ?_
      refine cdf rfl ?_
      refine sk ?_
      refine ib_n ?_
      refine th_n ?_
      refine cz [(7, vv11), (9, vv19), (10, .int .i64 (((k : Nat) : Int) - 1)), (11, .int .u64 ((at64 (tm (tm (d3 x) x) x) (k - 1) : Nat) : Int)), (12, .int .u64 ((at64 (List.replicate 6 0 ++ [p]) (k - 1) : Nat) : Int)), (35, .bool true), (46, .bool false)] ⟨rfl, rfl, rfl, rfl, rfl, rfl, rfl, trivial⟩ (fun _ => ?_)
      refine rp [0, 0, 0] ?_
      refine k0 (wt_none rfl _) rfl (.int .i64 (((k : Nat) : Int) - 1)) (fun _ _ => exec_move (.tmp 10) (.inl rfl) _ rfl) ?_
      refine k0 (wt_none rfl _) rfl (.int .i64 (((k - 1 : Nat) : Int) - 1)) (fun _ _ => x_subI (.tmp 36) (.const (.int .i64 1)) _ _ rfl (((k : Nat) : Int) - 1) 1 _ (by omega) (by omega) (by omega) rfl rfl) ?_
      refine k0 (wt_none rfl _) rfl (.int .i64 (((k - 1 : Nat) : Int) - 1)) (fun _ _ => exec_move (.tmp 37) (.inr rfl) _ rfl) ?_
      refine kend ?_
      refine th_n ?_
      exact ⟨_, (k - 1 : Nat), rfl, ⟨rfl, rfl, rfl, trivial⟩, ⟨(show (k - 1) ≤ 12 from (by omega)), (show cmpF (tm (tm (d3 x) x) x) (List.replicate 6 0 ++ [p]) (k - 1) = lst x p true from (by rw [← hh26]; exact (cmpF_eq hk0 hab).symm)), (show Mo w ww24 [.own 34 1 vv11 9 (c64 (tm (tm (d3 x) x) x)), .own 34 1 vv19 (6 + 1) (c64 (List.replicate 6 0 ++ [p]))] from mm23)⟩, (show (k - 1) < k by omega)⟩
    · skip
      refine cz [(7, vv11), (9, vv19), (10, .int .i64 (((k : Nat) : Int) - 1)), (11, .int .u64 ((at64 (tm (tm (d3 x) x) x) (k - 1) : Nat) : Int)), (12, .int .u64 ((at64 (List.replicate 6 0 ++ [p]) (k - 1) : Nat) : Int)), (35, .bool true)] ⟨rfl, rfl, rfl, rfl, rfl, rfl, trivial⟩ (fun _ => ?_)
      refine rp [0, 0, 0] ?_
      refine k0 (wt_none rfl _) rfl (.int .u64 ((at64 (tm (tm (d3 x) x) x) (k - 1) : Nat) : Int)) (fun _ _ => exec_move (.tmp 11) (.inl rfl) _ rfl) ?_
      refine k0 (wt_none rfl _) rfl (.int .u64 ((at64 (List.replicate 6 0 ++ [p]) (k - 1) : Nat) : Int)) (fun _ _ => exec_move (.tmp 12) (.inl rfl) _ rfl) ?_
      refine k0 (wt_none rfl _) rfl (.bool true) (fun _ _ => x_neq_t (.tmp 44) (.tmp 45) _ _ rfl (at64 (tm (tm (d3 x) x) x) (k - 1)) (at64 (List.replicate 6 0 ++ [p]) (k - 1)) .u64 (by omega) rfl rfl) ?_
      refine kend ?_
      refine th_n ?_
      refine cdt rfl ?_
      refine sq ?_
      by_cases hlt2 : at64 (tm (tm (d3 x) x) x) (k - 1) < at64 (List.replicate 6 0 ++ [p]) (k - 1)
      · skip
        refine cz [(7, vv11), (9, vv19), (10, .int .i64 (((k : Nat) : Int) - 1)), (11, .int .u64 ((at64 (tm (tm (d3 x) x) x) (k - 1) : Nat) : Int)), (12, .int .u64 ((at64 (List.replicate 6 0 ++ [p]) (k - 1) : Nat) : Int)), (35, .bool true), (46, .bool true)] ⟨rfl, rfl, rfl, rfl, rfl, rfl, rfl, trivial⟩ (fun _ => ?_)
        refine rp [0, 0, 0, 0] ?_
        refine k0 (wt_none rfl _) rfl (.int .u64 ((at64 (tm (tm (d3 x) x) x) (k - 1) : Nat) : Int)) (fun _ _ => exec_move (.tmp 11) (.inl rfl) _ rfl) ?_
        refine k0 (wt_none rfl _) rfl (.int .u64 ((at64 (List.replicate 6 0 ++ [p]) (k - 1) : Nat) : Int)) (fun _ _ => exec_move (.tmp 12) (.inl rfl) _ rfl) ?_
        refine k0 (wt_none rfl _) rfl (.bool true) (fun _ _ => x_lss_t (.tmp 47) (.tmp 48) _ _ rfl (at64 (tm (tm (d3 x) x) x) (k - 1)) (at64 (List.replicate 6 0 ++ [p]) (k - 1)) .u64 (by omega) rfl rfl) ?_
        refine k0 (wt_none rfl _) rfl (.bool true) (fun _ _ => exec_move (.tmp 49) (.inr rfl) _ rfl) ?_
        refine kend ?_
        refine th_n ?_
        refine re ?_
        refine ib_r ?_
        refine th_r ?_
        refine th_r ?_
        refine ib_r ?_
        refine th_r ?_
        refine rt1 rfl ?_
        exact ⟨by rw [← hh26, cmpF_ne hk0 hab, decide_eq_true hlt2]; rfl, mm23.below⟩
      · skip
        refine cz [(7, vv11), (9, vv19), (10, .int .i64 (((k : Nat) : Int) - 1)), (11, .int .u64 ((at64 (tm (tm (d3 x) x) x) (k - 1) : Nat) : Int)), (12, .int .u64 ((at64 (List.replicate 6 0 ++ [p]) (k - 1) : Nat) : Int)), (35, .bool true), (46, .bool true)] ⟨rfl, rfl, rfl, rfl, rfl, rfl, rfl, trivial⟩ (fun _ => ?_)
        refine rp [0, 0, 0, 0] ?_
        refine k0 (wt_none rfl _) rfl (.int .u64 ((at64 (tm (tm (d3 x) x) x) (k - 1) : Nat) : Int)) (fun _ _ => exec_move (.tmp 11) (.inl rfl) _ rfl) ?_
        refine k0 (wt_none rfl _) rfl (.int .u64 ((at64 (List.replicate 6 0 ++ [p]) (k - 1) : Nat) : Int)) (fun _ _ => exec_move (.tmp 12) (.inl rfl) _ rfl) ?_
        refine k0 (wt_none rfl _) rfl (.bool false) (fun _ _ => x_lss_f (.tmp 47) (.tmp 48) _ _ rfl (at64 (tm (tm (d3 x) x) x) (k - 1)) (at64 (List.replicate 6 0 ++ [p]) (k - 1)) .u64 (by omega) rfl rfl) ?_
        refine k0 (wt_none rfl _) rfl (.bool false) (fun _ _ => exec_move (.tmp 49) (.inr rfl) _ rfl) ?_
        refine kend ?_
        refine th_n ?_
        refine re ?_
        refine ib_r ?_
        refine th_r ?_
        refine th_r ?_
        refine ib_r ?_
        refine th_r ?_
        refine rt1 rfl ?_
        exact ⟨by rw [← hh26, cmpF_ne hk0 hab, decide_eq_false hlt2]; rfl, mm23.below⟩
  · -- behind the loop
    refine sq ?_
    refine sq ?_
    refine cz [(7, vv11), (9, vv19), (10, .int .i64 (((k : Nat) : Int) - 1))] ⟨rfl, rfl, rfl, trivial⟩ (fun _ => ?_)
    refine rp [0, 0] ?_
    refine k0 (wt_none rfl _) rfl (.int .i64 (((k : Nat) : Int) - 1)) (fun _ _ => exec_move (.tmp 10) (.inl rfl) _ rfl) ?_
    refine k0 (wt_none rfl _) rfl (.bool false) (fun _ _ => x_geqz (.tmp 34) (.const (.int .i64 0)) _ rfl (((k : Nat) : Int) - 1) 0 false (by simp; omega) .i64 rfl rfl) ?_
    refine kend ?_
    refine th_n ?_
    refine cdf rfl ?_
    refine ex ?_
    refine th_x ?_
    refine th_x ?_
    refine ib_x ?_
    refine th_n ?_
    refine sq ?_
    refine cz [(7, vv11), (9, vv19), (10, .int .i64 (((k : Nat) : Int) - 1)), (35, .bool false)] ⟨rfl, rfl, rfl, rfl, trivial⟩ (fun _ => ?_)
    refine rp [0] ?_
    refine k0 (wt_none rfl _) rfl (.bool true) (fun _ _ => exec_move (.const (.bool true)) (.inr rfl) _ rfl) ?_
    refine kend ?_
    refine th_n ?_
    refine re ?_
    refine rt1 rfl ?_
    obtain rfl : k = 0 := by omega
    exact ⟨by rw [← hh26]; rfl, mm23.below⟩

set_option maxHeartbeats 1000000 in
theorem least_false (x p : Nat) (w : World) (hx : x < 137438953472) :
    Calls Tryd.prog 38 #[.int .u64 ((x : Nat) : Int), .int .u64 ((p : Nat) : Int), .bool false] w fun e w' => e = .returned (.bool (lst x p false)) ∧ Below w.heap.size w w' := by
  have hD : (tm (d3 x) x).length = 6 := tm_length _ _
  have hE : (List.replicate 4 0 ++ [p]).length = 4 + 1 := rfl
  have m0 := Mo.start w
  refine enter [.int .u64 ((x : Nat) : Int), .int .u64 ((p : Nat) : Int), .bool false] 50 Tryd.func38 rfl Tryd.ntmps38 (Nat.le_of_ble_eq_true rfl) ?_
  refine sq ?_
  refine cz [(0, .int .u64 ((x : Nat) : Int)), (1, .int .u64 ((p : Nat) : Int)), (2, .bool false)] ⟨rfl, rfl, rfl, trivial⟩ (fun _ => ?_)
  refine rp [0] ?_
  refine k0 (wt_none rfl _) rfl (.bool false) (fun _ _ => exec_move (.const (.bool false)) (.inr rfl) _ rfl) ?_
  refine kend ?_
  refine th_n ?_
  refine sq ?_
  refine cz [(0, .int .u64 ((x : Nat) : Int)), (1, .int .u64 ((p : Nat) : Int)), (2, .bool false), (6, .bool false)] ⟨rfl, rfl, rfl, rfl, trivial⟩ (fun _ => ?_)
  refine rp [0, 0, 0, 0, 0, 0, 0, 0, 2, 0, 2, 0] ?_
  refine k0 (wt_none rfl _) rfl (.int .u64 ((x : Nat) : Int)) (fun _ _ => exec_move (.tmp 0) (.inl rfl) _ rfl) ?_
  refine k0 (wt_none rfl _) rfl (.int .u64 ((x % 65536 : Nat) : Int)) (fun _ _ => x_rem (.tmp 13) (.const (.int .u64 65536)) _ _ rfl x 65536 (x % 65536) .u64 (by exact ⟨rfl, by omega⟩) rfl rfl) ?_
  refine k0 (wt_none rfl _) rfl (.int .u64 ((x : Nat) : Int)) (fun _ _ => exec_move (.tmp 0) (.inl rfl) _ rfl) ?_
  refine k0 (wt_none rfl _) rfl (.int .u64 ((x / 65536 : Nat) : Int)) (fun _ _ => x_quo (.tmp 15) (.const (.int .u64 65536)) _ _ rfl x 65536 (x / 65536) .u64 (by exact ⟨rfl, by omega, (show _ < 18446744073709551616 by omega)⟩) rfl rfl) ?_
  refine k0 (wt_none rfl _) rfl (.int .u64 (((x / 65536) % 65536 : Nat) : Int)) (fun _ _ => x_rem (.tmp 16) (.const (.int .u64 65536)) _ _ rfl (x / 65536) 65536 ((x / 65536) % 65536) .u64 (by exact ⟨rfl, by omega⟩) rfl rfl) ?_
  refine k0 (wt_none rfl _) rfl (.int .u64 ((x : Nat) : Int)) (fun _ _ => exec_move (.tmp 0) (.inl rfl) _ rfl) ?_
  refine k0 (wt_none rfl _) rfl (.int .u64 ((x / 65536 : Nat) : Int)) (fun _ _ => x_quo (.tmp 18) (.const (.int .u64 65536)) _ _ rfl x 65536 (x / 65536) .u64 (by exact ⟨rfl, by omega, (show _ < 18446744073709551616 by omega)⟩) rfl rfl) ?_
  refine k0 (wt_none rfl _) rfl (.int .u64 (((x / 65536) / 65536 : Nat) : Int)) (fun _ _ => x_quo (.tmp 19) (.const (.int .u64 65536)) _ _ rfl (x / 65536) 65536 ((x / 65536) / 65536) .u64 (by exact ⟨rfl, by omega, (show _ < 18446744073709551616 by omega)⟩) rfl rfl) ?_
  refine k2 (wt_none rfl _) rfl (x_bld Tryd.sw 3 _ rfl m0 (c64 [x % 65536, (x / 65536) % 65536, (x / 65536) / 65536]) (c64 [x % 65536, (x / 65536) % 65536, (x / 65536) / 65536]) rfl (by decide) (one_size (cells_oc64 _)) (one_flat (cells_oc64 _)) rfl) ?_
  rintro vv1 ww2 mm3
  have mm4 : Mo w ww2 [.own 34 1 vv1 3 (c64 (d3 x))] := (by have h := mm3; rw [(show [x % 65536, (x / 65536) % 65536, (x / 65536) / 65536] = d3 x by rfl)] at h; exact h)
  refine ⟨trivial, ?_⟩
  refine k0 (wt_none rfl _) rfl (.int .u64 ((x : Nat) : Int)) (fun _ _ => exec_move (.tmp 0) (.inl rfl) _ rfl) ?_
  refine kc (wt_none rfl _) rfl (x_cl2 (v0 := vv1) (v1 := .int .u64 ((x : Nat) : Int)) rfl rfl rfl (by kernel_rfl)) (times_doc vv1 (d3 x) x 3 _ rfl (mm4.rc 0 rfl) (d3_ok hx) hx (by decide)) ?_
  rintro _ ww5 ⟨vv7, rfl, mm6⟩
  have mm8 : Mo w ww5 [.own 34 1 vv7 6 (c64 (tm (d3 x) x)), .own 34 1 vv1 3 (c64 (d3 x))] := mm4.join mm6
  refine ⟨_, rfl, trivial, ?_⟩
  refine k0 (wt_none rfl _) rfl (vv7) (fun _ _ => exec_move (.tmp 23) (.inr rfl) _ rfl) ?_
  refine kend ?_
  refine th_n ?_
  refine sq ?_
  refine cz [(0, .int .u64 ((x : Nat) : Int)), (1, .int .u64 ((p : Nat) : Int)), (2, .bool false), (6, .bool false), (7, vv7)] ⟨rfl, rfl, rfl, rfl, rfl, trivial⟩ (fun _ => ?_)
  refine rp [0] ?_
  refine k0 (wt_none rfl _) rfl (.int .i64 4) (fun _ _ => exec_move (.const (.int .i64 4)) (.inr rfl) _ rfl) ?_
  refine kend ?_
  refine th_n ?_
  refine sq ?_
  refine sq ?_
  refine cz [(0, .int .u64 ((x : Nat) : Int)), (1, .int .u64 ((p : Nat) : Int)), (2, .bool false), (6, .bool false), (7, vv7), (8, .int .i64 4)] ⟨rfl, rfl, rfl, rfl, rfl, rfl, trivial⟩ (fun _ => ?_)
  refine rp [0] ?_
  refine k0 (wt_none rfl _) rfl (.bool false) (fun _ _ => exec_move (.tmp 2) (.inl rfl) _ rfl) ?_
  refine kend ?_
  refine th_n ?_
  refine cdf rfl ?_
  refine sk ?_
  refine th_n ?_
  refine sq ?_
  refine cz [(0, .int .u64 ((x : Nat) : Int)), (1, .int .u64 ((p : Nat) : Int)), (2, .bool false), (6, .bool false), (7, vv7), (8, .int .i64 4), (24, .bool false)] ⟨rfl, rfl, rfl, rfl, rfl, rfl, rfl, trivial⟩ (fun _ => ?_)
  refine rp [0, 2, 0] ?_
  refine k0 (wt_none rfl _) rfl (.int .i64 4) (fun _ _ => exec_move (.tmp 8) (.inl rfl) _ rfl) ?_
  refine k2 (wt_none rfl _) rfl (x_mk Tryd.sw (.tmp 28) (.tmp 28) rfl mm8 .i64 .i64 4 (by omega) rfl rfl) ?_
  rintro vv9 ww10 mm11
  rw [made64] at mm11
  refine ⟨trivial, ?_⟩
  refine k0 (wt_none rfl _) rfl (vv9) (fun _ _ => exec_move (.tmp 29) (.inr rfl) _ rfl) ?_
  refine kend ?_
  refine th_n ?_
  refine sq ?_
  refine cz [(0, .int .u64 ((x : Nat) : Int)), (1, .int .u64 ((p : Nat) : Int)), (2, .bool false), (6, .bool false), (7, vv7), (8, .int .i64 4), (9, vv9), (24, .bool false)] ⟨rfl, rfl, rfl, rfl, rfl, rfl, rfl, rfl, trivial⟩ (fun _ => ?_)
  refine rp [0, 0, 2, 2, 0] ?_
  refine k0 (wt_none rfl _) rfl (vv9) (fun _ _ => exec_move (.tmp 9) (.inl rfl) _ rfl) ?_
  refine k0 (wt_none rfl _) rfl (.int .u64 ((p : Nat) : Int)) (fun _ _ => exec_move (.tmp 1) (.inl rfl) _ rfl) ?_
  refine k2 (wt_none rfl _) rfl (x_bld Tryd.sw 1 _ rfl mm11 (c64 [p]) (c64 [p]) rfl (by decide) (one_size (cells_oc64 _)) (one_flat (cells_oc64 _)) rfl) ?_
  rintro vv12 ww13 mm14
  refine ⟨trivial, ?_⟩
  refine k2 (wt_none rfl _) rfl (x_app Tryd.sw (.tmp 30) (.tmp 32) rfl mm14 1 rfl rfl (mm14.rc 0 rfl) rfl (c64_one _) (by omega) rfl) ?_
  rintro vv15 ww16 mm17
  have mm18 : Mo w ww16 [.own 34 1 vv12 1 (c64 ([p])), .own 34 1 vv15 (4 + 1) (c64 ((List.replicate 4 0) ++ ([p]))), .own 34 1 vv7 6 (c64 (tm (d3 x) x)), .own 34 1 vv1 3 (c64 (d3 x))] := (by have h := mm17; rw [← c64_append] at h; exact h)
  refine ⟨trivial, ?_⟩
  refine k0 (wt_none rfl _) rfl (vv15) (fun _ _ => exec_move (.tmp 33) (.inr rfl) _ rfl) ?_
  refine kend ?_
  refine th_n ?_
  refine sq ?_
  refine sq ?_
  refine cz [(0, .int .u64 ((x : Nat) : Int)), (1, .int .u64 ((p : Nat) : Int)), (2, .bool false), (6, .bool false), (7, vv7), (8, .int .i64 4), (9, vv15), (24, .bool false)] ⟨rfl, rfl, rfl, rfl, rfl, rfl, rfl, rfl, trivial⟩ (fun _ => ?_)
  refine rp [0] ?_
  refine k0 (wt_none rfl _) rfl (.int .i64 11) (fun _ _ => exec_move (.const (.int .i64 11)) (.inr rfl) _ rfl) ?_
  refine kend ?_
  refine th_n ?_
  refine bk ?_
  refine lp (fun (xs : Nat) => [(7, vv7), (9, vv15), (10, .int .i64 (((xs : Nat) : Int) - 1))]) (fun (xs : Nat) w1 => (xs ≤ 12) ∧ (cmpF (tm (d3 x) x) (List.replicate 4 0 ++ [p]) xs = lst x p false) ∧ Mo w w1 [.own 34 1 vv7 6 (c64 (tm (d3 x) x)), .own 34 1 vv15 (4 + 1) (c64 (List.replicate 4 0 ++ [p]))]) (fun (xs : Nat) => xs) 12 ⟨rfl, rfl, rfl, trivial⟩ ⟨(show 12 ≤ 12 from (by decide)), (show cmpF (tm (d3 x) x) (List.replicate 4 0 ++ [p]) 12 = lst x p false from rfl), (show Mo w ww16 [.own 34 1 vv7 6 (c64 (tm (d3 x) x)), .own 34 1 vv15 (4 + 1) (c64 (List.replicate 4 0 ++ [p]))] from mm18.pick [2, 1] (by decide) ⟨rfl, rfl, trivial⟩)⟩ ?_
  rintro k _ ww20 ⟨hh21, hh22, mm19⟩
  replace hh21 : k ≤ 12 := hh21
  replace hh22 : cmpF (tm (d3 x) x) (List.replicate 4 0 ++ [p]) k = lst x p false := hh22
  replace mm19 : Mo w ww20 [.own 34 1 vv7 6 (c64 (tm (d3 x) x)), .own 34 1 vv15 (4 + 1) (c64 (List.replicate 4 0 ++ [p]))] := mm19
  refine cz [(7, vv7), (9, vv15), (10, .int .i64 (((k : Nat) : Int) - 1))] ⟨rfl, rfl, rfl, trivial⟩ (fun _ => ?_)
  by_cases hk0 : k > 0
  · -- round
    refine sq ?_
    refine sq ?_
    refine cz [(7, vv7), (9, vv15), (10, .int .i64 (((k : Nat) : Int) - 1))] ⟨rfl, rfl, rfl, trivial⟩ (fun _ => ?_)
    refine rp [0, 0] ?_
    refine k0 (wt_none rfl _) rfl (.int .i64 (((k : Nat) : Int) - 1)) (fun _ _ => exec_move (.tmp 10) (.inl rfl) _ rfl) ?_
    refine k0 (wt_none rfl _) rfl (.bool true) (fun _ _ => x_geqz (.tmp 34) (.const (.int .i64 0)) _ rfl (((k : Nat) : Int) - 1) 0 true (by simp; omega) .i64 rfl rfl) ?_
    refine kend ?_
    refine th_n ?_
    refine cdt rfl ?_
    refine sk ?_
    refine th_n ?_
    refine sq ?_
    refine bk ?_
    refine sq ?_
    refine cz [(7, vv7), (9, vv15), (10, .int .i64 (((k : Nat) : Int) - 1)), (35, .bool true)] ⟨rfl, rfl, rfl, rfl, trivial⟩ (fun _ => ?_)
    refine rp [0, 0, 2, 0, 0, 2, 0, 0] ?_
    refine k0 (wt_none rfl _) rfl (vv7) (fun _ _ => exec_move (.tmp 7) (.inl rfl) _ rfl) ?_
    refine k0 (wt_none rfl _) rfl (.int .i64 ((k - 1 : Nat) : Int)) (fun _ _ => by rw [show ((k - 1 : Nat) : Int) = ((k : Nat) : Int) - 1 from by omega]; exact exec_move (.tmp 10) (.inl rfl) _ rfl) ?_
    refine kq (wt_none rfl _) rfl (x_cl2 (v0 := vv7) (v1 := .int .i64 ((k - 1 : Nat) : Int)) rfl rfl rfl (by kernel_rfl)) (.int .u64 ((at64 (tm (d3 x) x) (k - 1) : Nat) : Int)) (digit_doc vv7 (tm (d3 x) x) 6 (k - 1) _ hD (mm19.rc 0 rfl) (by omega)) trivial ?_
    refine k0 (wt_none rfl _) rfl (vv15) (fun _ _ => exec_move (.tmp 9) (.inl rfl) _ rfl) ?_
    refine k0 (wt_none rfl _) rfl (.int .i64 ((k - 1 : Nat) : Int)) (fun _ _ => by rw [show ((k - 1 : Nat) : Int) = ((k : Nat) : Int) - 1 from by omega]; exact exec_move (.tmp 10) (.inl rfl) _ rfl) ?_
    refine kq (wt_none rfl _) rfl (x_cl2 (v0 := vv15) (v1 := .int .i64 ((k - 1 : Nat) : Int)) rfl rfl rfl (by kernel_rfl)) (.int .u64 ((at64 (List.replicate 4 0 ++ [p]) (k - 1) : Nat) : Int)) (digit_doc vv15 (List.replicate 4 0 ++ [p]) (4 + 1) (k - 1) _ hE (mm19.rc 1 rfl) (by omega)) trivial ?_
    refine k0 (wt_none rfl _) rfl (.int .u64 ((at64 (tm (d3 x) x) (k - 1) : Nat) : Int)) (fun _ _ => exec_move (.tmp 40) (.inr rfl) _ rfl) ?_
    refine k0 (wt_none rfl _) rfl (.int .u64 ((at64 (List.replicate 4 0 ++ [p]) (k - 1) : Nat) : Int)) (fun _ _ => exec_move (.tmp 43) (.inr rfl) _ rfl) ?_
    refine kend ?_
    refine th_n ?_
    refine sq ?_
    by_cases hab : at64 (tm (d3 x) x) (k - 1) = at64 (List.replicate 4 0 ++ [p]) (k - 1)
    · skip
      refine cz [(7, vv7), (9, vv15), (10, .int .i64 (((k : Nat) : Int) - 1)), (11, .int .u64 ((at64 (tm (d3 x) x) (k - 1) : Nat) : Int)), (12, .int .u64 ((at64 (List.replicate 4 0 ++ [p]) (k - 1) : Nat) : Int)), (35, .bool true)] ⟨rfl, rfl, rfl, rfl, rfl, rfl, trivial⟩ (fun _ => ?_)
      refine rp [0, 0, 0] ?_
      refine k0 (wt_none rfl _) rfl (.int .u64 ((at64 (tm (d3 x) x) (k - 1) : Nat) : Int)) (fun _ _ => exec_move (.tmp 11) (.inl rfl) _ rfl) ?_
      refine k0 (wt_none rfl _) rfl (.int .u64 ((at64 (List.replicate 4 0 ++ [p]) (k - 1) : Nat) : Int)) (fun _ _ => exec_move (.tmp 12) (.inl rfl) _ rfl) ?_
      refine k0 (wt_none rfl _) rfl (.bool false) (fun _ _ => x_neq_f (.tmp 44) (.tmp 45) _ _ rfl (at64 (tm (d3 x) x) (k - 1)) (at64 (List.replicate 4 0 ++ [p]) (k - 1)) .u64 (by omega) rfl rfl) ?_
      refine kend ?_
      refine th_n ?_
      refine cdf rfl ?_
      refine sk ?_
      refine ib_n ?_
      refine th_n ?_
      refine cz [(7, vv7), (9, vv15), (10, .int .i64 (((k : Nat) : Int) - 1)), (11, .int .u64 ((at64 (tm (d3 x) x) (k - 1) : Nat) : Int)), (12, .int .u64 ((at64 (List.replicate 4 0 ++ [p]) (k - 1) : Nat) : Int)), (35, .bool true), (46, .bool false)] ⟨rfl, rfl, rfl, rfl, rfl, rfl, rfl, trivial⟩ (fun _ => ?_)
      refine rp [0, 0, 0] ?_
      refine k0 (wt_none rfl _) rfl (.int .i64 (((k : Nat) : Int) - 1)) (fun _ _ => exec_move (.tmp 10) (.inl rfl) _ rfl) ?_
      refine k0 (wt_none rfl _) rfl (.int .i64 (((k - 1 : Nat) : Int) - 1)) (fun _ _ => x_subI (.tmp 36) (.const (.int .i64 1)) _ _ rfl (((k : Nat) : Int) - 1) 1 _ (by omega) (by omega) (by omega) rfl rfl) ?_
      refine k0 (wt_none rfl _) rfl (.int .i64 (((k - 1 : Nat) : Int) - 1)) (fun _ _ => exec_move (.tmp 37) (.inr rfl) _ rfl) ?_
      refine kend ?_
      refine th_n ?_
      exact ⟨_, (k - 1 : Nat), rfl, ⟨rfl, rfl, rfl, trivial⟩, ⟨(show (k - 1) ≤ 12 from (by omega)), (show cmpF (tm (d3 x) x) (List.replicate 4 0 ++ [p]) (k - 1) = lst x p false from (by rw [← hh22]; exact (cmpF_eq hk0 hab).symm)), (show Mo w ww20 [.own 34 1 vv7 6 (c64 (tm (d3 x) x)), .own 34 1 vv15 (4 + 1) (c64 (List.replicate 4 0 ++ [p]))] from mm19)⟩, (show (k - 1) < k by omega)⟩
    · skip
      refine cz [(7, vv7), (9, vv15), (10, .int .i64 (((k : Nat) : Int) - 1)), (11, .int .u64 ((at64 (tm (d3 x) x) (k - 1) : Nat) : Int)), (12, .int .u64 ((at64 (List.replicate 4 0 ++ [p]) (k - 1) : Nat) : Int)), (35, .bool true)] ⟨rfl, rfl, rfl, rfl, rfl, rfl, trivial⟩ (fun _ => ?_)
      refine rp [0, 0, 0] ?_
      refine k0 (wt_none rfl _) rfl (.int .u64 ((at64 (tm (d3 x) x) (k - 1) : Nat) : Int)) (fun _ _ => exec_move (.tmp 11) (.inl rfl) _ rfl) ?_
      refine k0 (wt_none rfl _) rfl (.int .u64 ((at64 (List.replicate 4 0 ++ [p]) (k - 1) : Nat) : Int)) (fun _ _ => exec_move (.tmp 12) (.inl rfl) _ rfl) ?_
      refine k0 (wt_none rfl _) rfl (.bool true) (fun _ _ => x_neq_t (.tmp 44) (.tmp 45) _ _ rfl (at64 (tm (d3 x) x) (k - 1)) (at64 (List.replicate 4 0 ++ [p]) (k - 1)) .u64 (by omega) rfl rfl) ?_
      refine kend ?_
      refine th_n ?_
      refine cdt rfl ?_
      refine sq ?_
      by_cases hlt2 : at64 (tm (d3 x) x) (k - 1) < at64 (List.replicate 4 0 ++ [p]) (k - 1)
      · skip
        refine cz [(7, vv7), (9, vv15), (10, .int .i64 (((k : Nat) : Int) - 1)), (11, .int .u64 ((at64 (tm (d3 x) x) (k - 1) : Nat) : Int)), (12, .int .u64 ((at64 (List.replicate 4 0 ++ [p]) (k - 1) : Nat) : Int)), (35, .bool true), (46, .bool true)] ⟨rfl, rfl, rfl, rfl, rfl, rfl, rfl, trivial⟩ (fun _ => ?_)
        refine rp [0, 0, 0, 0] ?_
        refine k0 (wt_none rfl _) rfl (.int .u64 ((at64 (tm (d3 x) x) (k - 1) : Nat) : Int)) (fun _ _ => exec_move (.tmp 11) (.inl rfl) _ rfl) ?_
        refine k0 (wt_none rfl _) rfl (.int .u64 ((at64 (List.replicate 4 0 ++ [p]) (k - 1) : Nat) : Int)) (fun _ _ => exec_move (.tmp 12) (.inl rfl) _ rfl) ?_
        refine k0 (wt_none rfl _) rfl (.bool true) (fun _ _ => x_lss_t (.tmp 47) (.tmp 48) _ _ rfl (at64 (tm (d3 x) x) (k - 1)) (at64 (List.replicate 4 0 ++ [p]) (k - 1)) .u64 (by omega) rfl rfl) ?_
        refine k0 (wt_none rfl _) rfl (.bool true) (fun _ _ => exec_move (.tmp 49) (.inr rfl) _ rfl) ?_
        refine kend ?_
        refine th_n ?_
        refine re ?_
        refine ib_r ?_
        refine th_r ?_
        refine th_r ?_
        refine ib_r ?_
        refine th_r ?_
        refine rt1 rfl ?_
        exact ⟨by rw [← hh22, cmpF_ne hk0 hab, decide_eq_true hlt2]; rfl, mm19.below⟩
      · skip
        refine cz [(7, vv7), (9, vv15), (10, .int .i64 (((k : Nat) : Int) - 1)), (11, .int .u64 ((at64 (tm (d3 x) x) (k - 1) : Nat) : Int)), (12, .int .u64 ((at64 (List.replicate 4 0 ++ [p]) (k - 1) : Nat) : Int)), (35, .bool true), (46, .bool true)] ⟨rfl, rfl, rfl, rfl, rfl, rfl, rfl, trivial⟩ (fun _ => ?_)
        refine rp [0, 0, 0, 0] ?_
        refine k0 (wt_none rfl _) rfl (.int .u64 ((at64 (tm (d3 x) x) (k - 1) : Nat) : Int)) (fun _ _ => exec_move (.tmp 11) (.inl rfl) _ rfl) ?_
        refine k0 (wt_none rfl _) rfl (.int .u64 ((at64 (List.replicate 4 0 ++ [p]) (k - 1) : Nat) : Int)) (fun _ _ => exec_move (.tmp 12) (.inl rfl) _ rfl) ?_
        refine k0 (wt_none rfl _) rfl (.bool false) (fun _ _ => x_lss_f (.tmp 47) (.tmp 48) _ _ rfl (at64 (tm (d3 x) x) (k - 1)) (at64 (List.replicate 4 0 ++ [p]) (k - 1)) .u64 (by omega) rfl rfl) ?_
        refine k0 (wt_none rfl _) rfl (.bool false) (fun _ _ => exec_move (.tmp 49) (.inr rfl) _ rfl) ?_
        refine kend ?_
        refine th_n ?_
        refine re ?_
        refine ib_r ?_
        refine th_r ?_
        refine th_r ?_
        refine ib_r ?_
        refine th_r ?_
        refine rt1 rfl ?_
        exact ⟨by rw [← hh22, cmpF_ne hk0 hab, decide_eq_false hlt2]; rfl, mm19.below⟩
  · -- behind the loop
    refine sq ?_
    refine sq ?_
    refine cz [(7, vv7), (9, vv15), (10, .int .i64 (((k : Nat) : Int) - 1))] ⟨rfl, rfl, rfl, trivial⟩ (fun _ => ?_)
    refine rp [0, 0] ?_
    refine k0 (wt_none rfl _) rfl (.int .i64 (((k : Nat) : Int) - 1)) (fun _ _ => exec_move (.tmp 10) (.inl rfl) _ rfl) ?_
    refine k0 (wt_none rfl _) rfl (.bool false) (fun _ _ => x_geqz (.tmp 34) (.const (.int .i64 0)) _ rfl (((k : Nat) : Int) - 1) 0 false (by simp; omega) .i64 rfl rfl) ?_
    refine kend ?_
    refine th_n ?_
    refine cdf rfl ?_
    refine ex ?_
    refine th_x ?_
    refine th_x ?_
    refine ib_x ?_
    refine th_n ?_
    refine sq ?_
    refine cz [(7, vv7), (9, vv15), (10, .int .i64 (((k : Nat) : Int) - 1)), (35, .bool false)] ⟨rfl, rfl, rfl, rfl, trivial⟩ (fun _ => ?_)
    refine rp [0] ?_
    refine k0 (wt_none rfl _) rfl (.bool true) (fun _ _ => exec_move (.const (.bool true)) (.inr rfl) _ rfl) ?_
    refine kend ?_
    refine th_n ?_
    refine re ?_
    refine rt1 rfl ?_
    obtain rfl : k = 0 := by omega
    exact ⟨by rw [← hh22]; rfl, mm19.below⟩

end Go.Proofs.YtkgenageeiaacaaDoor
