/-
  Contracts of package merkle's Root, and of the document's.
-/
import Derived.Test.YtjlgbkkbflegcaaDoorK2
namespace Go.Proofs.YtjlgbkkbflegcaaDoor
open Go.RowKit
theorem up_le {l : List (List UInt8)} (h : 0 < l.length) (k : Nat) : (up l k).length ≤ l.length := by
  induction k with
  | zero => exact Nat.le_refl _
  | succ k ih =>
    have h1 : (up l (k + 1)).length = ((up l k).length + 1) / 2 := lft_length _
    have h2 := up_pos h k
    omega
theorem top_step {l : List (List UInt8)} {k : Nat} (h : ∀ j, j < k → 1 < (up l j).length) (hk : 1 < (up l k).length) : ∀ j, j < k + 1 → 1 < (up l j).length := by
  intro j hj
  rcases Nat.lt_or_ge j k with h1 | h1
  · exact h j h1
  · obtain rfl : j = k := by omega
    exact hk
/-- How many rows are lifted. -/
noncomputable def topK (l : List (List UInt8)) : Nat := Classical.epsilon (isTop l)
theorem topK_eq {l : List (List UInt8)} {k : Nat} (h : isTop l k) : topK l = k := isTop_unique (Classical.epsilon_spec (p := isTop l) ⟨k, h⟩) h
noncomputable def rootS (l : List (List UInt8)) : List UInt8 := if l.length = 0 then List.replicate 32 0 else atH (up l (topK l)) 0
noncomputable def dblS (l : List (List UInt8)) : Bool := if l.length = 0 then false else dbl l (topK l)

set_option maxHeartbeats 1000000 in
theorem root_any0 (v : Value) (l : List (List UInt8)) (w : World) (hv : Rc w.heap.size w v l.length (cH l)) (h0 : l.length = 0) :
    Calls Tryd.prog 10 #[v] w fun e w' => e = .returned (.tuple #[.agg (cellsOf (rootS l)).toArray, .bool (dblS l)]) ∧ Below w.heap.size w w' := by
  have m0 := Mo.start w
  refine enter [v] 23 Tryd.func10 rfl Tryd.ntmps10 (Nat.le_of_ble_eq_true rfl) ?_
  refine sq ?_
  refine cz [(0, v)] ⟨rfl, trivial⟩ (fun _ => ?_)
  refine rp [2, 0] ?_
  refine k2 (wt_none rfl _) rfl (x_alc Tryd.ah rfl m0 (cellsOf (List.replicate 32 0)) rfl) ?_
  rintro _ ww2 ⟨gg4, rfl, mm3⟩
  refine ⟨trivial, ?_⟩
  refine k0 (wt_none rfl _) rfl (.bool false) (fun _ _ => exec_move (.const (.bool false)) (.inr rfl) _ rfl) ?_
  refine kend ?_
  refine th_n ?_
  refine sq ?_
  refine sq ?_
  refine cz [(0, v), (2, .pointer (some ⟨gg4, 0, none⟩)), (3, .bool false)] ⟨rfl, rfl, rfl, trivial⟩ (fun _ => ?_)
  refine rp [0, 1, 0] ?_
  refine k0 (wt_none rfl _) rfl (v) (fun _ _ => exec_move (.tmp 0) (.inl rfl) _ rfl) ?_
  refine k1 (wt_none rfl _) rfl (.int .i64 ((l.length : Nat) : Int)) (x_len Tryd.sh.sl (.tmp 5) rfl (Rc.at hv mm3) rfl) ?_
  refine k0 (wt_none rfl _) rfl (.bool true) (fun _ _ => x_eql_t (.tmp 6) (.const (.int .i64 0)) _ _ rfl l.length 0 .i64 h0 rfl rfl) ?_
  refine kend ?_
  refine th_n ?_
  refine cdt rfl ?_
  refine sq ?_
  refine cz [(0, v), (2, .pointer (some ⟨gg4, 0, none⟩)), (3, .bool false), (7, .bool true)] ⟨rfl, rfl, rfl, rfl, trivial⟩ (fun _ => ?_)
  refine rp [0, 2, 0] ?_
  refine k0 (wt_none rfl _) rfl (.agg (cellsOf (List.replicate 32 0)).toArray) (fun _ _ => x_bld0 Tryd.ah rfl rfl) ?_
  refine ks (wt_none rfl _) rfl rfl (x_sta (.tmp 2) (.tmp 8) rfl mm3 0 rfl 0 (cellsOf (List.replicate 32 0)) (cellsOf (List.replicate 32 0)) (at_size Tryd.ah (by rfl : (cellsOf (List.replicate 32 0)).length = 32)) (sta_len (by rfl : (cellsOf (List.replicate 32 0)).length = 32) (by rfl : (cellsOf (List.replicate 32 0)).length = 32)) (cellsOf_one _) (sta_all (by rfl : (cellsOf (List.replicate 32 0)).length = 32) (by rfl : (cellsOf (List.replicate 32 0)).length = 32)) rfl (.agg (cellsOf (List.replicate 32 0)).toArray) rfl rfl) ?_
  rintro ww5 mm6
  have mm7 : Mo w ww5 [.arr gg4 24 (cellsOf (List.replicate 32 0))] := mm6
  refine ⟨trivial, ?_⟩
  refine k0 (wt_none rfl _) rfl (.bool false) (fun _ _ => exec_move (.const (.bool false)) (.inr rfl) _ rfl) ?_
  refine kend ?_
  refine th_n ?_
  refine re ?_
  refine th_r ?_
  refine rtat Tryd.ah rfl (by rfl : (cellsOf (List.replicate 32 0)).length = 32) (mm7.arr 0 rfl) rfl ?_
  exact ⟨by rw [rootS, dblS, if_pos h0, if_pos h0]; rfl, mm7.below⟩

set_option maxHeartbeats 1000000 in
theorem root_any1 (v : Value) (l : List (List UInt8)) (w : World) (h32 : H32 l) (hv : Rc w.heap.size w v l.length (cH l)) (hn : l.length ≤ 1000000) (ht : Tabs w) (h2 : 2 ≤ w.heap.size) (h0 : 0 < l.length) :
    Calls Tryd.prog 10 #[v] w fun e w' => e = .returned (.tuple #[.agg (cellsOf (rootS l)).toArray, .bool (dblS l)]) ∧ Below w.heap.size w w' := by
  have hup : ∀ k, H32 (up l k) := up_h32 h32
  have hpos : ∀ k, 0 < (up l k).length := up_pos h0
  have hle : ∀ k, (up l k).length ≤ 1000000 := fun k => Nat.le_trans (up_le h0 k) hn
  have hlk : ∀ k, (up l (k + 1)).length = ((up l k).length + 1) / 2 := fun k => lft_length _
  have m0 := Mo.start w
  refine enter [v] 23 Tryd.func10 rfl Tryd.ntmps10 (Nat.le_of_ble_eq_true rfl) ?_
  refine sq ?_
  refine cz [(0, v)] ⟨rfl, trivial⟩ (fun _ => ?_)
  refine rp [2, 0] ?_
  refine k2 (wt_none rfl _) rfl (x_alc Tryd.ah rfl m0 (cellsOf (List.replicate 32 0)) rfl) ?_
  rintro _ ww2 ⟨gg4, rfl, mm3⟩
  refine ⟨trivial, ?_⟩
  refine k0 (wt_none rfl _) rfl (.bool false) (fun _ _ => exec_move (.const (.bool false)) (.inr rfl) _ rfl) ?_
  refine kend ?_
  refine th_n ?_
  refine sq ?_
  refine sq ?_
  refine cz [(0, v), (2, .pointer (some ⟨gg4, 0, none⟩)), (3, .bool false)] ⟨rfl, rfl, rfl, trivial⟩ (fun _ => ?_)
  refine rp [0, 1, 0] ?_
  refine k0 (wt_none rfl _) rfl (v) (fun _ _ => exec_move (.tmp 0) (.inl rfl) _ rfl) ?_
  refine k1 (wt_none rfl _) rfl (.int .i64 (((up l 0).length : Nat) : Int)) (x_len Tryd.sh.sl (.tmp 5) rfl (Rc.at hv mm3) rfl) ?_
  refine k0 (wt_none rfl _) rfl (.bool false) (fun _ _ => x_eql_f (.tmp 6) (.const (.int .i64 0)) _ _ rfl ((up l 0).length) 0 .i64 (by have := hpos 0; omega) rfl rfl) ?_
  refine kend ?_
  refine th_n ?_
  refine cdf rfl ?_
  refine sk ?_
  refine th_n ?_
  refine sq ?_
  refine cz [(0, v), (2, .pointer (some ⟨gg4, 0, none⟩)), (3, .bool false), (7, .bool false)] ⟨rfl, rfl, rfl, rfl, trivial⟩ (fun _ => ?_)
  refine rp [0] ?_
  refine k0 (wt_none rfl _) rfl (.bool false) (fun _ _ => exec_move (.const (.bool false)) (.inr rfl) _ rfl) ?_
  refine kend ?_
  refine th_n ?_
  refine sq ?_
  refine bk ?_
  have mm5 : Mo w ww2 [.rda v ((up l 0).length) (cH (up l 0)), .arr gg4 24 (cellsOf (List.replicate 32 0))] := mm3.old hv (by rw [cH_length (hup 0)]; have := hpos 0; omega)
  refine lp (fun (x : Nat × Bool × Value) => [(0, x.2.2), (2, .pointer (some ⟨gg4, 0, none⟩)), (3, .bool false), (4, .bool x.2.1)]) (fun (x : Nat × Bool × Value) w1 => (∀ j, j < x.1 → 1 < (up l j).length) ∧ (x.2.1 = dbl l x.1) ∧ Mo w w1 [.rda x.2.2 ((up l x.1).length) (cH (up l x.1)), .arr gg4 24 (cellsOf (List.replicate 32 0))]) (fun (x : Nat × Bool × Value) => (up l x.1).length) (⟨0, false, v⟩) ⟨rfl, rfl, rfl, rfl, trivial⟩ ⟨(show ∀ j, j < 0 → 1 < (up l j).length from (fun j hj => absurd hj (Nat.not_lt_zero j))), (show false = dbl l 0 from rfl), (show Mo w ww2 [.rda v ((up l 0).length) (cH (up l 0)), .arr gg4 24 (cellsOf (List.replicate 32 0))] from mm5)⟩ ?_
  rintro ⟨k, d, u0⟩ _ ww7 ⟨hh8, hh9, mm6⟩
  replace hh8 : ∀ j, j < k → 1 < (up l j).length := hh8
  replace hh9 : d = dbl l k := hh9
  replace mm6 : Mo w ww7 [.rda u0 ((up l k).length) (cH (up l k)), .arr gg4 24 (cellsOf (List.replicate 32 0))] := mm6
  refine cz [(0, u0), (2, .pointer (some ⟨gg4, 0, none⟩)), (3, .bool false), (4, .bool d)] ⟨rfl, rfl, rfl, rfl, trivial⟩ (fun _ => ?_)
  by_cases hlt : (up l k).length > 1
  · -- round
    have hk1 := hlk k
    have hle1 := hle k
    refine sq ?_
    refine sq ?_
    refine cz [(0, u0), (2, .pointer (some ⟨gg4, 0, none⟩)), (3, .bool false), (4, .bool d)] ⟨rfl, rfl, rfl, rfl, trivial⟩ (fun _ => ?_)
    refine rp [0, 1, 0] ?_
    refine k0 (wt_none rfl _) rfl (u0) (fun _ _ => exec_move (.tmp 0) (.inl rfl) _ rfl) ?_
    refine k1 (wt_none rfl _) rfl (.int .i64 (((up l k).length : Nat) : Int)) (x_len Tryd.sh.sl (.tmp 9) rfl (mm6.rca 0 rfl) rfl) ?_
    refine k0 (wt_none rfl _) rfl (.bool true) (fun _ _ => x_gtr_t (.tmp 10) (.const (.int .i64 1)) _ _ rfl ((up l k).length) 1 .i64 (by omega) rfl rfl) ?_
    refine kend ?_
    refine th_n ?_
    refine cdt rfl ?_
    refine sk ?_
    refine th_n ?_
    refine bk ?_
    refine sq ?_
    by_cases hd : d = true
    · skip
      subst hd
      refine cz [(0, u0), (2, .pointer (some ⟨gg4, 0, none⟩)), (3, .bool false), (4, .bool true), (11, .bool true)] ⟨rfl, rfl, rfl, rfl, rfl, trivial⟩ (fun _ => ?_)
      refine rp [0, 0, 0, 0, 0, 0] ?_
      refine k0 (wt_none rfl _) rfl (.bool true) (fun _ _ => exec_move (.tmp 4) (.inl rfl) _ rfl) ?_
      refine k0 (wt_none rfl _) rfl (.bool true) (fun _ _ => exec_move (.tmp 12) (.inl rfl) _ rfl) ?_
      refine kn (wt_not rfl rfl rfl rfl) ?_
      refine kn (wt_not rfl rfl rfl rfl) ?_
      refine k0 (wt_none rfl _) rfl (.bool true) (fun _ _ => x_pick (.tmp 13) (.const (.bool true)) (.tmp 15) rfl true _ rfl rfl) ?_
      refine k0 (wt_none rfl _) rfl (.bool true) (fun _ _ => exec_move (.tmp 16) (.inr rfl) _ rfl) ?_
      refine kend ?_
      refine th_n ?_
      refine cz [(0, u0), (2, .pointer (some ⟨gg4, 0, none⟩)), (3, .bool false), (4, .bool true), (11, .bool true)] ⟨rfl, rfl, rfl, rfl, rfl, trivial⟩ (fun _ => ?_)
      refine rp [0, 2, 0] ?_
      refine k0 (wt_none rfl _) rfl (u0) (fun _ _ => exec_move (.tmp 0) (.inl rfl) _ rfl) ?_
      refine kc (wt_none rfl _) rfl (x_cl1 (v0 := u0) rfl rfl (by kernel_rfl)) (lifted_any u0 (up l k) _ (hup k) (mm6.rca 0 rfl) (hle _) (ht.gr mm6.below) (Nat.le_trans h2 mm6.size)) ?_
      rintro _ ww10 ⟨vv12, rfl, mm11⟩
      have mm13 : Mo w ww10 [.own 24 32 vv12 ((up l (k + 1)).length) (cH (up l (k + 1))), .rda u0 ((up l k).length) (cH (up l k)), .arr gg4 24 (cellsOf (List.replicate 32 0))] := mm6.join mm11
      refine ⟨_, rfl, trivial, ?_⟩
      refine k0 (wt_none rfl _) rfl (vv12) (fun _ _ => exec_move (.tmp 18) (.inr rfl) _ rfl) ?_
      refine kend ?_
      refine ib_n ?_
      refine th_n ?_
      have mm14 : Mo w ww10 [.rda vv12 ((up l (k + 1)).length) (cH (up l (k + 1))), .rda u0 ((up l k).length) (cH (up l k)), .arr gg4 24 (cellsOf (List.replicate 32 0))] := mm13.weak 0 rfl
      exact ⟨_, (⟨k + 1, true, vv12⟩ : Nat × Bool × Value), rfl, ⟨rfl, rfl, rfl, rfl, trivial⟩, ⟨(show ∀ j, j < (k + 1) → 1 < (up l j).length from (top_step hh8 hlt)), (show true = dbl l (k + 1) from (by rw [dbl, ← hh9]; simp)), (show Mo w ww10 [.rda vv12 ((up l (k + 1)).length) (cH (up l (k + 1))), .arr gg4 24 (cellsOf (List.replicate 32 0))] from mm14.pick [0, 2] (by decide) ⟨rfl, rfl, trivial⟩)⟩, (show (up l (k + 1)).length < (up l k).length by omega)⟩
    · skip
      have hd' : d = false := by simpa using hd
      subst hd'
      refine cz [(0, u0), (2, .pointer (some ⟨gg4, 0, none⟩)), (3, .bool false), (4, .bool false), (11, .bool true)] ⟨rfl, rfl, rfl, rfl, rfl, trivial⟩ (fun _ => ?_)
      refine rp [0, 0, 0, 2, 0, 0] ?_
      refine k0 (wt_none rfl _) rfl (.bool false) (fun _ _ => exec_move (.tmp 4) (.inl rfl) _ rfl) ?_
      refine k0 (wt_none rfl _) rfl (.bool false) (fun _ _ => exec_move (.tmp 12) (.inl rfl) _ rfl) ?_
      refine k0 (wt_some rfl rfl rfl rfl) rfl (u0) (fun _ _ => exec_move (.tmp 0) (.inl rfl) _ rfl) ?_
      refine kc (wt_some rfl rfl rfl rfl) rfl (x_cl1 (v0 := u0) rfl rfl (by kernel_rfl)) (hasAlike_any u0 (up l k) _ (hup k) (mm6.rca 0 rfl) (hle _)) ?_
      rintro _ ww15 ⟨rfl, mm16⟩
      have mm17 : Mo w ww15 [.rda u0 ((up l k).length) (cH (up l k)), .arr gg4 24 (cellsOf (List.replicate 32 0))] := mm6.gr mm16
      refine ⟨_, rfl, trivial, ?_⟩
      refine k0 (wt_none rfl _) rfl (.bool (alike (up l k))) (fun _ _ => x_pick (.tmp 13) (.const (.bool true)) (.tmp 15) rfl false _ rfl rfl) ?_
      refine k0 (wt_none rfl _) rfl (.bool (alike (up l k))) (fun _ _ => exec_move (.tmp 16) (.inr rfl) _ rfl) ?_
      refine kend ?_
      refine th_n ?_
      refine cz [(0, u0), (2, .pointer (some ⟨gg4, 0, none⟩)), (3, .bool false), (4, .bool (alike (up l k))), (11, .bool true)] ⟨rfl, rfl, rfl, rfl, rfl, trivial⟩ (fun _ => ?_)
      refine rp [0, 2, 0] ?_
      refine k0 (wt_none rfl _) rfl (u0) (fun _ _ => exec_move (.tmp 0) (.inl rfl) _ rfl) ?_
      refine kc (wt_none rfl _) rfl (x_cl1 (v0 := u0) rfl rfl (by kernel_rfl)) (lifted_any u0 (up l k) _ (hup k) (mm17.rca 0 rfl) (hle _) (ht.gr mm17.below) (Nat.le_trans h2 mm17.size)) ?_
      rintro _ ww18 ⟨vv20, rfl, mm19⟩
      have mm21 : Mo w ww18 [.own 24 32 vv20 ((up l (k + 1)).length) (cH (up l (k + 1))), .rda u0 ((up l k).length) (cH (up l k)), .arr gg4 24 (cellsOf (List.replicate 32 0))] := mm17.join mm19
      refine ⟨_, rfl, trivial, ?_⟩
      refine k0 (wt_none rfl _) rfl (vv20) (fun _ _ => exec_move (.tmp 18) (.inr rfl) _ rfl) ?_
      refine kend ?_
      refine ib_n ?_
      refine th_n ?_
      have mm22 : Mo w ww18 [.rda vv20 ((up l (k + 1)).length) (cH (up l (k + 1))), .rda u0 ((up l k).length) (cH (up l k)), .arr gg4 24 (cellsOf (List.replicate 32 0))] := mm21.weak 0 rfl
      exact ⟨_, (⟨k + 1, alike (up l k), vv20⟩ : Nat × Bool × Value), rfl, ⟨rfl, rfl, rfl, rfl, trivial⟩, ⟨(show ∀ j, j < (k + 1) → 1 < (up l j).length from (top_step hh8 hlt)), (show (alike (up l k)) = dbl l (k + 1) from (by rw [dbl, ← hh9]; simp)), (show Mo w ww18 [.rda vv20 ((up l (k + 1)).length) (cH (up l (k + 1))), .arr gg4 24 (cellsOf (List.replicate 32 0))] from mm22.pick [0, 2] (by decide) ⟨rfl, rfl, trivial⟩)⟩, (show (up l (k + 1)).length < (up l k).length by omega)⟩
  · -- behind the loop
    refine sq ?_
    refine sq ?_
    refine cz [(0, u0), (2, .pointer (some ⟨gg4, 0, none⟩)), (3, .bool false), (4, .bool d)] ⟨rfl, rfl, rfl, rfl, trivial⟩ (fun _ => ?_)
    refine rp [0, 1, 0] ?_
    refine k0 (wt_none rfl _) rfl (u0) (fun _ _ => exec_move (.tmp 0) (.inl rfl) _ rfl) ?_
    refine k1 (wt_none rfl _) rfl (.int .i64 (((up l k).length : Nat) : Int)) (x_len Tryd.sh.sl (.tmp 9) rfl (mm6.rca 0 rfl) rfl) ?_
    refine k0 (wt_none rfl _) rfl (.bool false) (fun _ _ => x_gtr_f (.tmp 10) (.const (.int .i64 1)) _ _ rfl ((up l k).length) 1 .i64 (by omega) rfl rfl) ?_
    refine kend ?_
    refine th_n ?_
    refine cdf rfl ?_
    refine ex ?_
    refine th_x ?_
    refine th_x ?_
    refine ib_x ?_
    refine th_n ?_
    refine sq ?_
    refine cz [(0, u0), (2, .pointer (some ⟨gg4, 0, none⟩)), (3, .bool false), (4, .bool d), (11, .bool false)] ⟨rfl, rfl, rfl, rfl, rfl, trivial⟩ (fun _ => ?_)
    refine rp [0, 1, 1, 0, 2, 0] ?_
    refine k0 (wt_none rfl _) rfl (u0) (fun _ _ => exec_move (.tmp 0) (.inl rfl) _ rfl) ?_
    refine k1 (wt_none rfl _) rfl (eP u0 (0 * 32)) (x_ep Tryd.sh (.tmp 19) (.const (.int .i64 0)) rfl (mm6.rca 0 rfl) 0 .i64 (0 * 32) rfl (hpos _) rfl _ rfl rfl) ?_
    refine k1 (wt_none rfl _) rfl (.agg (cellsOf (atH (up l k) 0)).toArray) (x_lda Tryd.ah (.tmp 20) rfl (mm6.rca 0 rfl) (0 * 32) (hpos _) (cellsOf (atH (up l k) 0)) (by rw [cellsOf_length]; exact H32.at (hup k) (hpos _)) (by decide) (cH_get (hup k) (hpos _)) rfl) ?_
    refine k0 (wt_none rfl _) rfl (.bool d) (fun _ _ => exec_move (.tmp 4) (.inl rfl) _ rfl) ?_
    refine ks (wt_none rfl _) rfl rfl (x_sta (.tmp 2) (.tmp 21) rfl mm6 1 rfl 0 (cellsOf (atH (up l k) 0)) (cellsOf (atH (up l k) 0)) (at_size Tryd.ah (by rw [cellsOf_length]; exact H32.at (hup k) (hpos _))) (sta_len (by rfl : (cellsOf (List.replicate 32 0)).length = 32) (by rw [cellsOf_length]; exact H32.at (hup k) (hpos _))) (cellsOf_one _) (sta_all (by rfl : (cellsOf (List.replicate 32 0)).length = 32) (by rw [cellsOf_length]; exact H32.at (hup k) (hpos _))) rfl (.agg (cellsOf (atH (up l k) 0)).toArray) rfl rfl) ?_
    rintro ww23 mm24
    have mm25 : Mo w ww23 [.rda u0 ((up l k).length) (cH (up l k)), .arr gg4 24 (cellsOf (atH (up l k) 0))] := mm24
    refine ⟨trivial, ?_⟩
    refine k0 (wt_none rfl _) rfl (.bool d) (fun _ _ => exec_move (.tmp 22) (.inr rfl) _ rfl) ?_
    refine kend ?_
    refine th_n ?_
    refine re ?_
    refine rtat Tryd.ah rfl (by rw [cellsOf_length]; exact H32.at (hup k) (hpos _)) (mm25.arr 1 rfl) rfl ?_
    have ek := topK_eq ⟨hh8, by omega⟩
    exact ⟨by rw [rootS, dblS, if_neg (by omega), if_neg (by omega), ek, ← hh9]; rfl, mm25.below⟩

set_option maxHeartbeats 1000000 in
theorem root_doc1 (v : Value) (l : List (List UInt8)) (w : World) (h32 : H32 l) (hv : Rc w.heap.size w v l.length (cH l)) (hn : l.length ≤ 1000000) (h0 : 0 < l.length) :
    Calls Tryd.prog 11 #[v] w fun e w' => e = .returned (.tuple #[.agg (cellsOf (rootS l)).toArray, .bool (dblS l)]) ∧ Below w.heap.size w w' := by
  have hup : ∀ k, H32 (up l k) := up_h32 h32
  have hpos : ∀ k, 0 < (up l k).length := up_pos h0
  have hle : ∀ k, (up l k).length ≤ 1000000 := fun k => Nat.le_trans (up_le h0 k) hn
  have hlk : ∀ k, (up l (k + 1)).length = ((up l k).length + 1) / 2 := fun k => lft_length _
  have m0 := Mo.start w
  refine enter [v] 39 Tryd.func11 rfl Tryd.ntmps11 (Nat.le_of_ble_eq_true rfl) ?_
  refine sq ?_
  refine cz [(0, v)] ⟨rfl, trivial⟩ (fun _ => ?_)
  refine rp [2, 0] ?_
  refine k2 (wt_none rfl _) rfl (x_alc Tryd.ah rfl m0 (cellsOf (List.replicate 32 0)) rfl) ?_
  rintro _ ww2 ⟨gg4, rfl, mm3⟩
  refine ⟨trivial, ?_⟩
  refine k0 (wt_none rfl _) rfl (.bool false) (fun _ _ => exec_move (.const (.bool false)) (.inr rfl) _ rfl) ?_
  refine kend ?_
  refine th_n ?_
  refine sq ?_
  refine cz [(0, v), (2, .pointer (some ⟨gg4, 0, none⟩)), (3, .bool false)] ⟨rfl, rfl, rfl, trivial⟩ (fun _ => ?_)
  refine rp [0] ?_
  refine k0 (wt_none rfl _) rfl (.bool false) (fun _ _ => exec_move (.const (.bool false)) (.inr rfl) _ rfl) ?_
  refine kend ?_
  refine th_n ?_
  refine sq ?_
  refine bk ?_
  have mm5 : Mo w ww2 [.rda v ((up l 0).length) (cH (up l 0)), .arr gg4 24 (cellsOf (List.replicate 32 0))] := mm3.old hv (by rw [cH_length (hup 0)]; have := hpos 0; omega)
  refine lp (fun (x : Nat × Bool × Value) => [(0, x.2.2), (2, .pointer (some ⟨gg4, 0, none⟩)), (3, .bool false), (4, .bool x.2.1)]) (fun (x : Nat × Bool × Value) w1 => (∀ j, j < x.1 → 1 < (up l j).length) ∧ (x.2.1 = dbl l x.1) ∧ Mo w w1 [.rda x.2.2 ((up l x.1).length) (cH (up l x.1)), .arr gg4 24 (cellsOf (List.replicate 32 0))]) (fun (x : Nat × Bool × Value) => (up l x.1).length) (⟨0, false, v⟩) ⟨rfl, rfl, rfl, rfl, trivial⟩ ⟨(show ∀ j, j < 0 → 1 < (up l j).length from (fun j hj => absurd hj (Nat.not_lt_zero j))), (show false = dbl l 0 from rfl), (show Mo w ww2 [.rda v ((up l 0).length) (cH (up l 0)), .arr gg4 24 (cellsOf (List.replicate 32 0))] from mm5)⟩ ?_
  rintro ⟨k, d, u0⟩ _ ww7 ⟨hh8, hh9, mm6⟩
  replace hh8 : ∀ j, j < k → 1 < (up l j).length := hh8
  replace hh9 : d = dbl l k := hh9
  replace mm6 : Mo w ww7 [.rda u0 ((up l k).length) (cH (up l k)), .arr gg4 24 (cellsOf (List.replicate 32 0))] := mm6
  refine cz [(0, u0), (2, .pointer (some ⟨gg4, 0, none⟩)), (3, .bool false), (4, .bool d)] ⟨rfl, rfl, rfl, rfl, trivial⟩ (fun _ => ?_)
  by_cases hlt : (up l k).length > 1
  · -- round
    have hk1 := hlk k
    have hle1 := hle k
    refine sq ?_
    refine sq ?_
    refine cz [(0, u0), (2, .pointer (some ⟨gg4, 0, none⟩)), (3, .bool false), (4, .bool d)] ⟨rfl, rfl, rfl, rfl, trivial⟩ (fun _ => ?_)
    refine rp [0, 1, 0] ?_
    refine k0 (wt_none rfl _) rfl (u0) (fun _ _ => exec_move (.tmp 0) (.inl rfl) _ rfl) ?_
    refine k1 (wt_none rfl _) rfl (.int .i64 (((up l k).length : Nat) : Int)) (x_len Tryd.sh.sl (.tmp 6) rfl (mm6.rca 0 rfl) rfl) ?_
    refine k0 (wt_none rfl _) rfl (.bool true) (fun _ _ => x_gtr_t (.tmp 7) (.const (.int .i64 1)) _ _ rfl ((up l k).length) 1 .i64 (by omega) rfl rfl) ?_
    refine kend ?_
    refine th_n ?_
    refine cdt rfl ?_
    refine sk ?_
    refine th_n ?_
    refine bk ?_
    refine sq ?_
    refine sq ?_
    refine cz [(0, u0), (2, .pointer (some ⟨gg4, 0, none⟩)), (3, .bool false), (4, .bool d), (8, .bool true)] ⟨rfl, rfl, rfl, rfl, rfl, trivial⟩ (fun _ => ?_)
    refine rp [0] ?_
    refine k0 (wt_none rfl _) rfl (.int .i64 0) (fun _ _ => exec_move (.const (.int .i64 0)) (.inr rfl) _ rfl) ?_
    refine kend ?_
    refine th_n ?_
    refine bk ?_
    refine lp (fun (x : Nat × Bool) => [(0, u0), (2, .pointer (some ⟨gg4, 0, none⟩)), (3, .bool false), (4, .bool x.2), (5, .int .i64 ((2 * x.1 : Nat) : Int))]) (fun (x : Nat × Bool) w1 => (2 * x.1 ≤ (up l k).length) ∧ (x.2 = (d || alk (up l k) x.1)) ∧ Mo w w1 [.rda u0 ((up l k).length) (cH (up l k)), .arr gg4 24 (cellsOf (List.replicate 32 0))]) (fun (x : Nat × Bool) => (up l k).length - 2 * x.1) (⟨0, d⟩) ⟨rfl, rfl, rfl, rfl, rfl, trivial⟩ ⟨(show 2 * 0 ≤ (up l k).length from (Nat.zero_le _)), (show d = (d || alk (up l k) 0) from (by simp [alk])), (show Mo w ww7 [.rda u0 ((up l k).length) (cH (up l k)), .arr gg4 24 (cellsOf (List.replicate 32 0))] from mm6)⟩ ?_
    rintro ⟨m, q⟩ _ ww11 ⟨hh12, hh13, mm10⟩
    replace hh12 : 2 * m ≤ (up l k).length := hh12
    replace hh13 : q = (d || alk (up l k) m) := hh13
    replace mm10 : Mo w ww11 [.rda u0 ((up l k).length) (cH (up l k)), .arr gg4 24 (cellsOf (List.replicate 32 0))] := mm10
    refine cz [(0, u0), (2, .pointer (some ⟨gg4, 0, none⟩)), (3, .bool false), (4, .bool q), (5, .int .i64 ((2 * m : Nat) : Int))] ⟨rfl, rfl, rfl, rfl, rfl, trivial⟩ (fun _ => ?_)
    by_cases hm : 2 * m + 1 < (up l k).length
    · -- round
      refine sq ?_
      refine sq ?_
      refine cz [(0, u0), (2, .pointer (some ⟨gg4, 0, none⟩)), (3, .bool false), (4, .bool q), (5, .int .i64 ((2 * m : Nat) : Int))] ⟨rfl, rfl, rfl, rfl, rfl, trivial⟩ (fun _ => ?_)
      refine rp [0, 0, 0, 1, 0] ?_
      refine k0 (wt_none rfl _) rfl (.int .i64 ((2 * m : Nat) : Int)) (fun _ _ => exec_move (.tmp 5) (.inl rfl) _ rfl) ?_
      refine k0 (wt_none rfl _) rfl (.int .i64 (((2 * m) + 1 : Nat) : Int)) (fun _ _ => x_add (.tmp 9) (.const (.int .i64 1)) _ _ rfl (2 * m) 1 ((2 * m) + 1) .i64 (by exact ⟨by omega, (show _ < 9223372036854775808 by omega)⟩) rfl rfl) ?_
      refine k0 (wt_none rfl _) rfl (u0) (fun _ _ => exec_move (.tmp 0) (.inl rfl) _ rfl) ?_
      refine k1 (wt_none rfl _) rfl (.int .i64 (((up l k).length : Nat) : Int)) (x_len Tryd.sh.sl (.tmp 11) rfl (mm10.rca 0 rfl) rfl) ?_
      refine k0 (wt_none rfl _) rfl (.bool true) (fun _ _ => x_lss_t (.tmp 10) (.tmp 12) _ _ rfl ((2 * m) + 1) ((up l k).length) .i64 (by omega) rfl rfl) ?_
      refine kend ?_
      refine th_n ?_
      refine cdt rfl ?_
      refine sk ?_
      refine th_n ?_
      refine sq ?_
      refine bk ?_
      by_cases hq : q = true
      · skip
        subst hq
        by_cases heq : atH (up l k) (2 * m) = atH (up l k) (2 * m + 1)
        · skip
          refine cz [(0, u0), (2, .pointer (some ⟨gg4, 0, none⟩)), (3, .bool false), (4, .bool true), (5, .int .i64 ((2 * m : Nat) : Int)), (13, .bool true)] ⟨rfl, rfl, rfl, rfl, rfl, rfl, trivial⟩ (fun _ => ?_)
          have mm15 := mm10.drew
          refine rq (fun w1 => Mo w w1 [.rda u0 ((up l k).length) (cH (up l k)), .arr gg4 24 (cellsOf (List.replicate 32 0))]) [0, 0, 0, 0, 0, 0, 0, 0, 0, 0, 0, 0, 0, 0] (by kernel_rfl) (by kernel_rfl) (by kernel_rfl) (mm15.sub (List.Sublist.cons_cons _ (List.Sublist.cons_cons _ List.Sublist.slnil))) ?_
          refine k0 (wt_none rfl _) rfl (.bool true) (fun _ _ => exec_move (.tmp 4) (.inl rfl) _ rfl) ?_
          refine k0 (wt_none rfl _) rfl (.bool true) (fun _ _ => exec_move (.tmp 16) (.inl rfl) _ rfl) ?_
          refine kn (wt_not rfl rfl rfl rfl) ?_
          refine kn (wt_not rfl rfl rfl rfl) ?_
          refine kn (wt_not rfl rfl rfl rfl) ?_
          refine kn (wt_not rfl rfl rfl rfl) ?_
          refine kn (wt_not rfl rfl rfl rfl) ?_
          refine kn (wt_not rfl rfl rfl rfl) ?_
          refine kn (wt_not rfl rfl rfl rfl) ?_
          refine kn (wt_not rfl rfl rfl rfl) ?_
          refine kn (wt_not rfl rfl rfl rfl) ?_
          refine kn (wt_not rfl rfl rfl rfl) ?_
          refine k0 (wt_none rfl _) rfl (.bool true) (fun _ _ => x_pick (.tmp 17) (.const (.bool true)) (.tmp 27) rfl true _ rfl rfl) ?_
          refine k0 (wt_none rfl _) rfl (.bool true) (fun _ _ => exec_move (.tmp 28) (.inr rfl) _ rfl) ?_
          refine kend ?_
          refine ib_n ?_
          refine th_n ?_
          refine cz [(0, u0), (2, .pointer (some ⟨gg4, 0, none⟩)), (3, .bool false), (4, .bool true), (5, .int .i64 ((2 * m : Nat) : Int)), (13, .bool true)] ⟨rfl, rfl, rfl, rfl, rfl, rfl, trivial⟩ (fun _ => ?_)
          refine rp [0, 0, 0] ?_
          refine k0 (wt_none rfl _) rfl (.int .i64 ((2 * m : Nat) : Int)) (fun _ _ => exec_move (.tmp 5) (.inl rfl) _ rfl) ?_
          refine k0 (wt_none rfl _) rfl (.int .i64 ((2 * (m + 1) : Nat) : Int)) (fun _ _ => x_add (.tmp 14) (.const (.int .i64 2)) _ _ rfl (2 * m) 2 (2 * (m + 1)) .i64 (by exact ⟨by omega, (show _ < 9223372036854775808 by omega)⟩) rfl rfl) ?_
          refine k0 (wt_none rfl _) rfl (.int .i64 ((2 * (m + 1) : Nat) : Int)) (fun _ _ => exec_move (.tmp 15) (.inr rfl) _ rfl) ?_
          refine kend ?_
          refine th_n ?_
          exact ⟨_, (⟨m + 1, true⟩ : Nat × Bool), rfl, ⟨rfl, rfl, rfl, rfl, rfl, trivial⟩, ⟨(show 2 * (m + 1) ≤ (up l k).length from (by omega)), (show true = (d || alk (up l k) (m + 1)) from (by rw [alk, ← Bool.or_assoc, ← hh13]; simp [heq])), (show Mo w (ww11.drewN 1) [.rda u0 ((up l k).length) (cH (up l k)), .arr gg4 24 (cellsOf (List.replicate 32 0))] from mm15)⟩, (show (up l k).length - 2 * (m + 1) < (up l k).length - 2 * m by omega)⟩
        · skip
          refine cz [(0, u0), (2, .pointer (some ⟨gg4, 0, none⟩)), (3, .bool false), (4, .bool true), (5, .int .i64 ((2 * m : Nat) : Int)), (13, .bool true)] ⟨rfl, rfl, rfl, rfl, rfl, rfl, trivial⟩ (fun _ => ?_)
          have mm17 := mm10.drew
          refine rq (fun w1 => Mo w w1 [.rda u0 ((up l k).length) (cH (up l k)), .arr gg4 24 (cellsOf (List.replicate 32 0))]) [0, 0, 0, 0, 0, 0, 0, 0, 0, 0, 0, 0, 0, 0] (by kernel_rfl) (by kernel_rfl) (by kernel_rfl) (mm17.sub (List.Sublist.cons_cons _ (List.Sublist.cons_cons _ List.Sublist.slnil))) ?_
          refine k0 (wt_none rfl _) rfl (.bool true) (fun _ _ => exec_move (.tmp 4) (.inl rfl) _ rfl) ?_
          refine k0 (wt_none rfl _) rfl (.bool true) (fun _ _ => exec_move (.tmp 16) (.inl rfl) _ rfl) ?_
          refine kn (wt_not rfl rfl rfl rfl) ?_
          refine kn (wt_not rfl rfl rfl rfl) ?_
          refine kn (wt_not rfl rfl rfl rfl) ?_
          refine kn (wt_not rfl rfl rfl rfl) ?_
          refine kn (wt_not rfl rfl rfl rfl) ?_
          refine kn (wt_not rfl rfl rfl rfl) ?_
          refine kn (wt_not rfl rfl rfl rfl) ?_
          refine kn (wt_not rfl rfl rfl rfl) ?_
          refine kn (wt_not rfl rfl rfl rfl) ?_
          refine kn (wt_not rfl rfl rfl rfl) ?_
          refine k0 (wt_none rfl _) rfl (.bool true) (fun _ _ => x_pick (.tmp 17) (.const (.bool true)) (.tmp 27) rfl true _ rfl rfl) ?_
          refine k0 (wt_none rfl _) rfl (.bool true) (fun _ _ => exec_move (.tmp 28) (.inr rfl) _ rfl) ?_
          refine kend ?_
          refine ib_n ?_
          refine th_n ?_
          refine cz [(0, u0), (2, .pointer (some ⟨gg4, 0, none⟩)), (3, .bool false), (4, .bool true), (5, .int .i64 ((2 * m : Nat) : Int)), (13, .bool true)] ⟨rfl, rfl, rfl, rfl, rfl, rfl, trivial⟩ (fun _ => ?_)
          refine rp [0, 0, 0] ?_
          refine k0 (wt_none rfl _) rfl (.int .i64 ((2 * m : Nat) : Int)) (fun _ _ => exec_move (.tmp 5) (.inl rfl) _ rfl) ?_
          refine k0 (wt_none rfl _) rfl (.int .i64 ((2 * (m + 1) : Nat) : Int)) (fun _ _ => x_add (.tmp 14) (.const (.int .i64 2)) _ _ rfl (2 * m) 2 (2 * (m + 1)) .i64 (by exact ⟨by omega, (show _ < 9223372036854775808 by omega)⟩) rfl rfl) ?_
          refine k0 (wt_none rfl _) rfl (.int .i64 ((2 * (m + 1) : Nat) : Int)) (fun _ _ => exec_move (.tmp 15) (.inr rfl) _ rfl) ?_
          refine kend ?_
          refine th_n ?_
          exact ⟨_, (⟨m + 1, true⟩ : Nat × Bool), rfl, ⟨rfl, rfl, rfl, rfl, rfl, trivial⟩, ⟨(show 2 * (m + 1) ≤ (up l k).length from (by omega)), (show true = (d || alk (up l k) (m + 1)) from (by rw [alk, ← Bool.or_assoc, ← hh13]; simp [heq])), (show Mo w (ww11.drewN 1) [.rda u0 ((up l k).length) (cH (up l k)), .arr gg4 24 (cellsOf (List.replicate 32 0))] from mm17)⟩, (show (up l k).length - 2 * (m + 1) < (up l k).length - 2 * m by omega)⟩
      · skip
        have hq' : q = false := by simpa using hq
        subst hq'
        by_cases heq : atH (up l k) (2 * m) = atH (up l k) (2 * m + 1)
        · skip
          refine cz [(0, u0), (2, .pointer (some ⟨gg4, 0, none⟩)), (3, .bool false), (4, .bool false), (5, .int .i64 ((2 * m : Nat) : Int)), (13, .bool true)] ⟨rfl, rfl, rfl, rfl, rfl, rfl, trivial⟩ (fun _ => ?_)
          have mm19 := mm10.drew
          refine rq (fun w1 => Mo w w1 [.rda u0 ((up l k).length) (cH (up l k)), .arr gg4 24 (cellsOf (List.replicate 32 0))]) [0, 0, 0, 0, 0, 0, 0, 0, 0, 0, 0, 0, 0, 0] (by kernel_rfl) (by kernel_rfl) (by kernel_rfl) (mm19.sub (List.Sublist.cons_cons _ (List.Sublist.cons_cons _ List.Sublist.slnil))) ?_
          refine k0 (wt_none rfl _) rfl (.bool false) (fun _ _ => exec_move (.tmp 4) (.inl rfl) _ rfl) ?_
          refine k0 (wt_none rfl _) rfl (.bool false) (fun _ _ => exec_move (.tmp 16) (.inl rfl) _ rfl) ?_
          refine k0 (wt_some rfl rfl rfl rfl) rfl (u0) (fun _ _ => exec_move (.tmp 0) (.inl rfl) _ rfl) ?_
          refine k0 (wt_some rfl rfl rfl rfl) rfl (.int .i64 ((2 * m : Nat) : Int)) (fun _ _ => exec_move (.tmp 5) (.inl rfl) _ rfl) ?_
          refine k0 (wt_some rfl rfl rfl rfl) rfl (eP u0 ((2 * m) * 32)) (fun _ hC => x_ep Tryd.sh (.tmp 18) (.tmp 19) rfl (hC.rca 0 rfl) (2 * m) .i64 ((2 * m) * 32) rfl (by omega) rfl _ rfl rfl) ?_
          refine k0 (wt_some rfl rfl rfl rfl) rfl (.agg (cellsOf (atH (up l k) (2 * m))).toArray) (fun _ hC => x_lda Tryd.ah (.tmp 20) rfl (hC.rca 0 rfl) ((2 * m) * 32) (by omega) (cellsOf (atH (up l k) (2 * m))) (by rw [cellsOf_length]; exact H32.at (hup k) (by omega)) (by decide) (cH_get (hup k) (by omega)) rfl) ?_
          refine k0 (wt_some rfl rfl rfl rfl) rfl (u0) (fun _ _ => exec_move (.tmp 0) (.inl rfl) _ rfl) ?_
          refine k0 (wt_some rfl rfl rfl rfl) rfl (.int .i64 ((2 * m : Nat) : Int)) (fun _ _ => exec_move (.tmp 5) (.inl rfl) _ rfl) ?_
          refine k0 (wt_some rfl rfl rfl rfl) rfl (.int .i64 (((2 * m) + 1 : Nat) : Int)) (fun _ _ => x_add (.tmp 23) (.const (.int .i64 1)) _ _ rfl (2 * m) 1 ((2 * m) + 1) .i64 (by exact ⟨by omega, (show _ < 9223372036854775808 by omega)⟩) rfl rfl) ?_
          refine k0 (wt_some rfl rfl rfl rfl) rfl (eP u0 (((2 * m) + 1) * 32)) (fun _ hC => x_ep Tryd.sh (.tmp 22) (.tmp 24) rfl (hC.rca 0 rfl) ((2 * m) + 1) .i64 (((2 * m) + 1) * 32) rfl (by omega) rfl _ rfl rfl) ?_
          refine k0 (wt_some rfl rfl rfl rfl) rfl (.agg (cellsOf (atH (up l k) ((2 * m) + 1))).toArray) (fun _ hC => x_lda Tryd.ah (.tmp 25) rfl (hC.rca 0 rfl) (((2 * m) + 1) * 32) (by omega) (cellsOf (atH (up l k) ((2 * m) + 1))) (by rw [cellsOf_length]; exact H32.at (hup k) (by omega)) (by decide) (cH_get (hup k) (by omega)) rfl) ?_
          refine k0 (wt_some rfl rfl rfl rfl) rfl (.bool true) (fun _ _ => x_eqa Tryd.ah Tryd.u8 (by kernel_rfl) (.tmp 21) (.tmp 26) _ rfl (atH (up l k) (2 * m)) (atH (up l k) ((2 * m) + 1)) (by rw [cellsOf_length]; exact H32.at (hup k) (by omega)) (by rw [cellsOf_length]; exact H32.at (hup k) (by omega)) true (decide_eq_true heq) rfl rfl) ?_
          refine k0 (wt_none rfl _) rfl (.bool true) (fun _ _ => x_pick (.tmp 17) (.const (.bool true)) (.tmp 27) rfl false _ rfl rfl) ?_
          refine k0 (wt_none rfl _) rfl (.bool true) (fun _ _ => exec_move (.tmp 28) (.inr rfl) _ rfl) ?_
          refine kend ?_
          refine ib_n ?_
          refine th_n ?_
          refine cz [(0, u0), (2, .pointer (some ⟨gg4, 0, none⟩)), (3, .bool false), (4, .bool true), (5, .int .i64 ((2 * m : Nat) : Int)), (13, .bool true)] ⟨rfl, rfl, rfl, rfl, rfl, rfl, trivial⟩ (fun _ => ?_)
          refine rp [0, 0, 0] ?_
          refine k0 (wt_none rfl _) rfl (.int .i64 ((2 * m : Nat) : Int)) (fun _ _ => exec_move (.tmp 5) (.inl rfl) _ rfl) ?_
          refine k0 (wt_none rfl _) rfl (.int .i64 ((2 * (m + 1) : Nat) : Int)) (fun _ _ => x_add (.tmp 14) (.const (.int .i64 2)) _ _ rfl (2 * m) 2 (2 * (m + 1)) .i64 (by exact ⟨by omega, (show _ < 9223372036854775808 by omega)⟩) rfl rfl) ?_
          refine k0 (wt_none rfl _) rfl (.int .i64 ((2 * (m + 1) : Nat) : Int)) (fun _ _ => exec_move (.tmp 15) (.inr rfl) _ rfl) ?_
          refine kend ?_
          refine th_n ?_
          exact ⟨_, (⟨m + 1, true⟩ : Nat × Bool), rfl, ⟨rfl, rfl, rfl, rfl, rfl, trivial⟩, ⟨(show 2 * (m + 1) ≤ (up l k).length from (by omega)), (show true = (d || alk (up l k) (m + 1)) from (by rw [alk, ← Bool.or_assoc, ← hh13]; simp [heq])), (show Mo w (ww11.drewN 1) [.rda u0 ((up l k).length) (cH (up l k)), .arr gg4 24 (cellsOf (List.replicate 32 0))] from mm19)⟩, (show (up l k).length - 2 * (m + 1) < (up l k).length - 2 * m by omega)⟩
        · skip
          refine cz [(0, u0), (2, .pointer (some ⟨gg4, 0, none⟩)), (3, .bool false), (4, .bool false), (5, .int .i64 ((2 * m : Nat) : Int)), (13, .bool true)] ⟨rfl, rfl, rfl, rfl, rfl, rfl, trivial⟩ (fun _ => ?_)
          have mm21 := mm10.drew
          refine rq (fun w1 => Mo w w1 [.rda u0 ((up l k).length) (cH (up l k)), .arr gg4 24 (cellsOf (List.replicate 32 0))]) [0, 0, 0, 0, 0, 0, 0, 0, 0, 0, 0, 0, 0, 0] (by kernel_rfl) (by kernel_rfl) (by kernel_rfl) (mm21.sub (List.Sublist.cons_cons _ (List.Sublist.cons_cons _ List.Sublist.slnil))) ?_
          refine k0 (wt_none rfl _) rfl (.bool false) (fun _ _ => exec_move (.tmp 4) (.inl rfl) _ rfl) ?_
          refine k0 (wt_none rfl _) rfl (.bool false) (fun _ _ => exec_move (.tmp 16) (.inl rfl) _ rfl) ?_
          refine k0 (wt_some rfl rfl rfl rfl) rfl (u0) (fun _ _ => exec_move (.tmp 0) (.inl rfl) _ rfl) ?_
          refine k0 (wt_some rfl rfl rfl rfl) rfl (.int .i64 ((2 * m : Nat) : Int)) (fun _ _ => exec_move (.tmp 5) (.inl rfl) _ rfl) ?_
          refine k0 (wt_some rfl rfl rfl rfl) rfl (eP u0 ((2 * m) * 32)) (fun _ hC => x_ep Tryd.sh (.tmp 18) (.tmp 19) rfl (hC.rca 0 rfl) (2 * m) .i64 ((2 * m) * 32) rfl (by omega) rfl _ rfl rfl) ?_
          refine k0 (wt_some rfl rfl rfl rfl) rfl (.agg (cellsOf (atH (up l k) (2 * m))).toArray) (fun _ hC => x_lda Tryd.ah (.tmp 20) rfl (hC.rca 0 rfl) ((2 * m) * 32) (by omega) (cellsOf (atH (up l k) (2 * m))) (by rw [cellsOf_length]; exact H32.at (hup k) (by omega)) (by decide) (cH_get (hup k) (by omega)) rfl) ?_
          refine k0 (wt_some rfl rfl rfl rfl) rfl (u0) (fun _ _ => exec_move (.tmp 0) (.inl rfl) _ rfl) ?_
          refine k0 (wt_some rfl rfl rfl rfl) rfl (.int .i64 ((2 * m : Nat) : Int)) (fun _ _ => exec_move (.tmp 5) (.inl rfl) _ rfl) ?_
          refine k0 (wt_some rfl rfl rfl rfl) rfl (.int .i64 (((2 * m) + 1 : Nat) : Int)) (fun _ _ => x_add (.tmp 23) (.const (.int .i64 1)) _ _ rfl (2 * m) 1 ((2 * m) + 1) .i64 (by exact ⟨by omega, (show _ < 9223372036854775808 by omega)⟩) rfl rfl) ?_
          refine k0 (wt_some rfl rfl rfl rfl) rfl (eP u0 (((2 * m) + 1) * 32)) (fun _ hC => x_ep Tryd.sh (.tmp 22) (.tmp 24) rfl (hC.rca 0 rfl) ((2 * m) + 1) .i64 (((2 * m) + 1) * 32) rfl (by omega) rfl _ rfl rfl) ?_
          refine k0 (wt_some rfl rfl rfl rfl) rfl (.agg (cellsOf (atH (up l k) ((2 * m) + 1))).toArray) (fun _ hC => x_lda Tryd.ah (.tmp 25) rfl (hC.rca 0 rfl) (((2 * m) + 1) * 32) (by omega) (cellsOf (atH (up l k) ((2 * m) + 1))) (by rw [cellsOf_length]; exact H32.at (hup k) (by omega)) (by decide) (cH_get (hup k) (by omega)) rfl) ?_
          refine k0 (wt_some rfl rfl rfl rfl) rfl (.bool false) (fun _ _ => x_eqa Tryd.ah Tryd.u8 (by kernel_rfl) (.tmp 21) (.tmp 26) _ rfl (atH (up l k) (2 * m)) (atH (up l k) ((2 * m) + 1)) (by rw [cellsOf_length]; exact H32.at (hup k) (by omega)) (by rw [cellsOf_length]; exact H32.at (hup k) (by omega)) false (decide_eq_false heq) rfl rfl) ?_
          refine k0 (wt_none rfl _) rfl (.bool false) (fun _ _ => x_pick (.tmp 17) (.const (.bool true)) (.tmp 27) rfl false _ rfl rfl) ?_
          refine k0 (wt_none rfl _) rfl (.bool false) (fun _ _ => exec_move (.tmp 28) (.inr rfl) _ rfl) ?_
          refine kend ?_
          refine ib_n ?_
          refine th_n ?_
          refine cz [(0, u0), (2, .pointer (some ⟨gg4, 0, none⟩)), (3, .bool false), (4, .bool false), (5, .int .i64 ((2 * m : Nat) : Int)), (13, .bool true)] ⟨rfl, rfl, rfl, rfl, rfl, rfl, trivial⟩ (fun _ => ?_)
          refine rp [0, 0, 0] ?_
          refine k0 (wt_none rfl _) rfl (.int .i64 ((2 * m : Nat) : Int)) (fun _ _ => exec_move (.tmp 5) (.inl rfl) _ rfl) ?_
          refine k0 (wt_none rfl _) rfl (.int .i64 ((2 * (m + 1) : Nat) : Int)) (fun _ _ => x_add (.tmp 14) (.const (.int .i64 2)) _ _ rfl (2 * m) 2 (2 * (m + 1)) .i64 (by exact ⟨by omega, (show _ < 9223372036854775808 by omega)⟩) rfl rfl) ?_
          refine k0 (wt_none rfl _) rfl (.int .i64 ((2 * (m + 1) : Nat) : Int)) (fun _ _ => exec_move (.tmp 15) (.inr rfl) _ rfl) ?_
          refine kend ?_
          refine th_n ?_
          exact ⟨_, (⟨m + 1, false⟩ : Nat × Bool), rfl, ⟨rfl, rfl, rfl, rfl, rfl, trivial⟩, ⟨(show 2 * (m + 1) ≤ (up l k).length from (by omega)), (show false = (d || alk (up l k) (m + 1)) from (by rw [alk, ← Bool.or_assoc, ← hh13]; simp [heq])), (show Mo w (ww11.drewN 1) [.rda u0 ((up l k).length) (cH (up l k)), .arr gg4 24 (cellsOf (List.replicate 32 0))] from mm21)⟩, (show (up l k).length - 2 * (m + 1) < (up l k).length - 2 * m by omega)⟩
    · -- behind the loop
      refine sq ?_
      refine sq ?_
      refine cz [(0, u0), (2, .pointer (some ⟨gg4, 0, none⟩)), (3, .bool false), (4, .bool q), (5, .int .i64 ((2 * m : Nat) : Int))] ⟨rfl, rfl, rfl, rfl, rfl, trivial⟩ (fun _ => ?_)
      refine rp [0, 0, 0, 1, 0] ?_
      refine k0 (wt_none rfl _) rfl (.int .i64 ((2 * m : Nat) : Int)) (fun _ _ => exec_move (.tmp 5) (.inl rfl) _ rfl) ?_
      refine k0 (wt_none rfl _) rfl (.int .i64 (((2 * m) + 1 : Nat) : Int)) (fun _ _ => x_add (.tmp 9) (.const (.int .i64 1)) _ _ rfl (2 * m) 1 ((2 * m) + 1) .i64 (by exact ⟨by omega, (show _ < 9223372036854775808 by omega)⟩) rfl rfl) ?_
      refine k0 (wt_none rfl _) rfl (u0) (fun _ _ => exec_move (.tmp 0) (.inl rfl) _ rfl) ?_
      refine k1 (wt_none rfl _) rfl (.int .i64 (((up l k).length : Nat) : Int)) (x_len Tryd.sh.sl (.tmp 11) rfl (mm10.rca 0 rfl) rfl) ?_
      refine k0 (wt_none rfl _) rfl (.bool false) (fun _ _ => x_lss_f (.tmp 10) (.tmp 12) _ _ rfl ((2 * m) + 1) ((up l k).length) .i64 (by omega) rfl rfl) ?_
      refine kend ?_
      refine th_n ?_
      refine cdf rfl ?_
      refine ex ?_
      refine th_x ?_
      refine th_x ?_
      refine ib_x ?_
      refine th_n ?_
      refine cz [(0, u0), (2, .pointer (some ⟨gg4, 0, none⟩)), (3, .bool false), (4, .bool q), (5, .int .i64 ((2 * m : Nat) : Int)), (13, .bool false)] ⟨rfl, rfl, rfl, rfl, rfl, rfl, trivial⟩ (fun _ => ?_)
      refine rp [0, 2, 0] ?_
      refine k0 (wt_none rfl _) rfl (u0) (fun _ _ => exec_move (.tmp 0) (.inl rfl) _ rfl) ?_
      refine kc (wt_none rfl _) rfl (x_cl1 (v0 := u0) rfl rfl (by kernel_rfl)) (lifted_doc u0 (up l k) _ (hup k) (mm10.rca 0 rfl) (hle _)) ?_
      rintro _ ww22 ⟨vv24, rfl, mm23⟩
      have mm25 : Mo w ww22 [.own 24 32 vv24 ((up l (k + 1)).length) (cH (up l (k + 1))), .rda u0 ((up l k).length) (cH (up l k)), .arr gg4 24 (cellsOf (List.replicate 32 0))] := mm10.join mm23
      refine ⟨_, rfl, trivial, ?_⟩
      refine k0 (wt_none rfl _) rfl (vv24) (fun _ _ => exec_move (.tmp 30) (.inr rfl) _ rfl) ?_
      refine kend ?_
      refine ib_n ?_
      refine th_n ?_
      have mm26 : Mo w ww22 [.rda vv24 ((up l (k + 1)).length) (cH (up l (k + 1))), .rda u0 ((up l k).length) (cH (up l k)), .arr gg4 24 (cellsOf (List.replicate 32 0))] := mm25.weak 0 rfl
      exact ⟨_, (⟨k + 1, q, vv24⟩ : Nat × Bool × Value), rfl, ⟨rfl, rfl, rfl, rfl, trivial⟩, ⟨(show ∀ j, j < (k + 1) → 1 < (up l j).length from (top_step hh8 hlt)), (show q = dbl l (k + 1) from (by rw [dbl, alike_of (k := m) (by omega) rfl, ← hh9]; exact hh13)), (show Mo w ww22 [.rda vv24 ((up l (k + 1)).length) (cH (up l (k + 1))), .arr gg4 24 (cellsOf (List.replicate 32 0))] from mm26.pick [0, 2] (by decide) ⟨rfl, rfl, trivial⟩)⟩, (show (up l (k + 1)).length < (up l k).length by omega)⟩
  · -- behind the loop
    refine sq ?_
    refine sq ?_
    refine cz [(0, u0), (2, .pointer (some ⟨gg4, 0, none⟩)), (3, .bool false), (4, .bool d)] ⟨rfl, rfl, rfl, rfl, trivial⟩ (fun _ => ?_)
    refine rp [0, 1, 0] ?_
    refine k0 (wt_none rfl _) rfl (u0) (fun _ _ => exec_move (.tmp 0) (.inl rfl) _ rfl) ?_
    refine k1 (wt_none rfl _) rfl (.int .i64 (((up l k).length : Nat) : Int)) (x_len Tryd.sh.sl (.tmp 6) rfl (mm6.rca 0 rfl) rfl) ?_
    refine k0 (wt_none rfl _) rfl (.bool false) (fun _ _ => x_gtr_f (.tmp 7) (.const (.int .i64 1)) _ _ rfl ((up l k).length) 1 .i64 (by omega) rfl rfl) ?_
    refine kend ?_
    refine th_n ?_
    refine cdf rfl ?_
    refine ex ?_
    refine th_x ?_
    refine th_x ?_
    refine ib_x ?_
    refine th_n ?_
    refine sq ?_
    refine sq ?_
    refine cz [(0, u0), (2, .pointer (some ⟨gg4, 0, none⟩)), (3, .bool false), (4, .bool d), (8, .bool false)] ⟨rfl, rfl, rfl, rfl, rfl, trivial⟩ (fun _ => ?_)
    refine rp [0, 1, 0] ?_
    refine k0 (wt_none rfl _) rfl (u0) (fun _ _ => exec_move (.tmp 0) (.inl rfl) _ rfl) ?_
    refine k1 (wt_none rfl _) rfl (.int .i64 (((up l k).length : Nat) : Int)) (x_len Tryd.sh.sl (.tmp 31) rfl (mm6.rca 0 rfl) rfl) ?_
    refine k0 (wt_none rfl _) rfl (.bool false) (fun _ _ => x_eql_f (.tmp 32) (.const (.int .i64 0)) _ _ rfl ((up l k).length) 0 .i64 (by have := hpos k; omega) rfl rfl) ?_
    refine kend ?_
    refine th_n ?_
    refine cdf rfl ?_
    refine sk ?_
    refine th_n ?_
    refine sq ?_
    refine cz [(0, u0), (2, .pointer (some ⟨gg4, 0, none⟩)), (3, .bool false), (4, .bool d), (8, .bool false), (33, .bool false)] ⟨rfl, rfl, rfl, rfl, rfl, rfl, trivial⟩ (fun _ => ?_)
    refine rp [0, 1, 1, 0, 2, 0] ?_
    refine k0 (wt_none rfl _) rfl (u0) (fun _ _ => exec_move (.tmp 0) (.inl rfl) _ rfl) ?_
    refine k1 (wt_none rfl _) rfl (eP u0 (0 * 32)) (x_ep Tryd.sh (.tmp 35) (.const (.int .i64 0)) rfl (mm6.rca 0 rfl) 0 .i64 (0 * 32) rfl (hpos _) rfl _ rfl rfl) ?_
    refine k1 (wt_none rfl _) rfl (.agg (cellsOf (atH (up l k) 0)).toArray) (x_lda Tryd.ah (.tmp 36) rfl (mm6.rca 0 rfl) (0 * 32) (hpos _) (cellsOf (atH (up l k) 0)) (by rw [cellsOf_length]; exact H32.at (hup k) (hpos _)) (by decide) (cH_get (hup k) (hpos _)) rfl) ?_
    refine k0 (wt_none rfl _) rfl (.bool d) (fun _ _ => exec_move (.tmp 4) (.inl rfl) _ rfl) ?_
    refine ks (wt_none rfl _) rfl rfl (x_sta (.tmp 2) (.tmp 37) rfl mm6 1 rfl 0 (cellsOf (atH (up l k) 0)) (cellsOf (atH (up l k) 0)) (at_size Tryd.ah (by rw [cellsOf_length]; exact H32.at (hup k) (hpos _))) (sta_len (by rfl : (cellsOf (List.replicate 32 0)).length = 32) (by rw [cellsOf_length]; exact H32.at (hup k) (hpos _))) (cellsOf_one _) (sta_all (by rfl : (cellsOf (List.replicate 32 0)).length = 32) (by rw [cellsOf_length]; exact H32.at (hup k) (hpos _))) rfl (.agg (cellsOf (atH (up l k) 0)).toArray) rfl rfl) ?_
    rintro ww27 mm28
    have mm29 : Mo w ww27 [.rda u0 ((up l k).length) (cH (up l k)), .arr gg4 24 (cellsOf (atH (up l k) 0))] := mm28
    refine ⟨trivial, ?_⟩
    refine k0 (wt_none rfl _) rfl (.bool d) (fun _ _ => exec_move (.tmp 38) (.inr rfl) _ rfl) ?_
    refine kend ?_
    refine th_n ?_
    refine re ?_
    refine rtat Tryd.ah rfl (by rw [cellsOf_length]; exact H32.at (hup k) (hpos _)) (mm29.arr 1 rfl) rfl ?_
    have ek := topK_eq ⟨hh8, by omega⟩
    exact ⟨by rw [rootS, dblS, if_neg (by omega), if_neg (by omega), ek, ← hh9]; rfl, mm29.below⟩

end Go.Proofs.YtjlgbkkbflegcaaDoor
