/-
  Contracts of package merkle's Branch, Climb, and of the document's; of its comparison of lists that are alike.
-/
import Derived.Test.YtjlgbkkbflegcaaDoorK3
namespace Go.Proofs.YtjlgbkkbflegcaaDoor
open Go.RowKit

set_option maxHeartbeats 1000000 in
theorem root_doc0 (v : Value) (l : List (List UInt8)) (w : World) (hv : Rc w.heap.size w v l.length (cH l)) (h0 : l.length = 0) :
    Calls Tryd.prog 11 #[v] w fun e w' => e = .returned (.tuple #[.agg (cellsOf (rootS l)).toArray, .bool (dblS l)]) ∧ Below w.heap.size w w' := by
  have m0 := Mo.start w
  refine enter [v] 39 Tryd.func11 rfl Tryd.ntmps11 (Nat.le_of_ble_eq_true rfl) ?_
  refine sq ?_
  refine cz [(0, v)] ⟨rfl, trivial⟩ (fun _ => ?_)
  refine rp [2, 0] ?_
  refine k2 (wt_none rfl _) rfl (x_alc Tryd.ah rfl m0 (cellsOf (List.replicate 32 0)) rfl) ?_
  rintro _ ww2 ⟨gg4, rfl, mm3⟩
  refine ⟨trivial, ?_⟩
  refine k0 (wt_none rfl _) rfl (.bool false) (fun _ _ => exec_move (.const (.bool false)) (.inr rfl) _ rfl) ?_
  refine kend ?_
  refine th_n ?_
  refine sq ?_
  refine cz [(0, v), (2, .pointer (some ⟨gg4, 0, none⟩)), (3, .bool false)] ⟨rfl, rfl, rfl, trivial⟩ (fun _ => ?_)
  refine rp [0] ?_
  refine k0 (wt_none rfl _) rfl (.bool false) (fun _ _ => exec_move (.const (.bool false)) (.inr rfl) _ rfl) ?_
  refine kend ?_
  refine th_n ?_
  refine sq ?_
  refine bk ?_
  refine lp (fun (xs : Nat) => [(0, v), (2, .pointer (some ⟨gg4, 0, none⟩)), (3, .bool false), (4, .bool false)]) (fun (xs : Nat) w1 => Mo w w1 [.arr gg4 24 (cellsOf (List.replicate 32 0))]) (fun (xs : Nat) => xs) 0 ⟨rfl, rfl, rfl, rfl, trivial⟩ (show Mo w ww2 [.arr gg4 24 (cellsOf (List.replicate 32 0))] from mm3) ?_
  rintro k _ ww6 mm5
  replace mm5 : Mo w ww6 [.arr gg4 24 (cellsOf (List.replicate 32 0))] := mm5
  refine cz [(0, v), (2, .pointer (some ⟨gg4, 0, none⟩)), (3, .bool false), (4, .bool false)] ⟨rfl, rfl, rfl, rfl, trivial⟩ (fun _ => ?_)
  by_cases hlt : l.length > 1
  · -- round
    exact absurd hlt (by omega)
  · -- behind the loop
    refine sq ?_
    refine sq ?_
    refine cz [(0, v), (2, .pointer (some ⟨gg4, 0, none⟩)), (3, .bool false), (4, .bool false)] ⟨rfl, rfl, rfl, rfl, trivial⟩ (fun _ => ?_)
    refine rp [0, 1, 0] ?_
    refine k0 (wt_none rfl _) rfl (v) (fun _ _ => exec_move (.tmp 0) (.inl rfl) _ rfl) ?_
    refine k1 (wt_none rfl _) rfl (.int .i64 ((l.length : Nat) : Int)) (x_len Tryd.sh.sl (.tmp 6) rfl (Rc.at hv mm5) rfl) ?_
    refine k0 (wt_none rfl _) rfl (.bool false) (fun _ _ => x_gtr_f (.tmp 7) (.const (.int .i64 1)) _ _ rfl l.length 1 .i64 (by omega) rfl rfl) ?_
    refine kend ?_
    refine th_n ?_
    refine cdf rfl ?_
    refine ex ?_
    refine th_x ?_
    refine th_x ?_
    refine ib_x ?_
    refine th_n ?_
    refine sq ?_
    refine sq ?_
    refine cz [(0, v), (2, .pointer (some ⟨gg4, 0, none⟩)), (3, .bool false), (4, .bool false), (8, .bool false)] ⟨rfl, rfl, rfl, rfl, rfl, trivial⟩ (fun _ => ?_)
    refine rp [0, 1, 0] ?_
    refine k0 (wt_none rfl _) rfl (v) (fun _ _ => exec_move (.tmp 0) (.inl rfl) _ rfl) ?_
    refine k1 (wt_none rfl _) rfl (.int .i64 ((l.length : Nat) : Int)) (x_len Tryd.sh.sl (.tmp 31) rfl (Rc.at hv mm5) rfl) ?_
    refine k0 (wt_none rfl _) rfl (.bool true) (fun _ _ => x_eql_t (.tmp 32) (.const (.int .i64 0)) _ _ rfl l.length 0 .i64 h0 rfl rfl) ?_
    refine kend ?_
    refine th_n ?_
    refine cdt rfl ?_
    refine sq ?_
    refine cz [(0, v), (2, .pointer (some ⟨gg4, 0, none⟩)), (3, .bool false), (4, .bool false), (8, .bool false), (33, .bool true)] ⟨rfl, rfl, rfl, rfl, rfl, rfl, trivial⟩ (fun _ => ?_)
    refine rp [0, 2, 0] ?_
    refine k0 (wt_none rfl _) rfl (.agg (cellsOf (List.replicate 32 0)).toArray) (fun _ _ => x_bld0 Tryd.ah rfl rfl) ?_
    refine ks (wt_none rfl _) rfl rfl (x_sta (.tmp 2) (.tmp 34) rfl mm5 0 rfl 0 (cellsOf (List.replicate 32 0)) (cellsOf (List.replicate 32 0)) (at_size Tryd.ah (by rfl : (cellsOf (List.replicate 32 0)).length = 32)) (sta_len (by rfl : (cellsOf (List.replicate 32 0)).length = 32) (by rfl : (cellsOf (List.replicate 32 0)).length = 32)) (cellsOf_one _) (sta_all (by rfl : (cellsOf (List.replicate 32 0)).length = 32) (by rfl : (cellsOf (List.replicate 32 0)).length = 32)) rfl (.agg (cellsOf (List.replicate 32 0)).toArray) rfl rfl) ?_
    rintro ww7 mm8
    have mm9 : Mo w ww7 [.arr gg4 24 (cellsOf (List.replicate 32 0))] := mm8
    refine ⟨trivial, ?_⟩
    refine k0 (wt_none rfl _) rfl (.bool false) (fun _ _ => exec_move (.const (.bool false)) (.inr rfl) _ rfl) ?_
    refine kend ?_
    refine th_n ?_
    refine re ?_
    refine th_r ?_
    refine rtat Tryd.ah rfl (by rfl : (cellsOf (List.replicate 32 0)).length = 32) (mm9.arr 0 rfl) rfl ?_
    exact ⟨by rw [rootS, dblS, if_pos h0, if_pos h0]; rfl, mm9.below⟩

set_option maxHeartbeats 1000000 in
theorem branch_any (v : Value) (l : List (List UInt8)) (i : Nat) (w : World) (h32 : H32 l) (hv : Rc w.heap.size w v l.length (cH l)) (hn : l.length ≤ 1000000) (ht : Tabs w) (h2 : 2 ≤ w.heap.size) (hi : i < l.length) :
    Calls Tryd.prog 13 #[v, .int .i64 ((i : Nat) : Int)] w fun e w' => ∃ v', e = .returned (.tuple #[v', .int .i64 0]) ∧ Mo w w' [.own 24 32 v' (topK l) (cH (way l i (topK l)))] := by
  have h0 : 0 < l.length := by omega
  have hup : ∀ k, H32 (up l k) := up_h32 h32
  have hl0 : (up l 0).length = l.length := rfl
  have hpos : ∀ k, 0 < (up l k).length := up_pos h0
  have hle : ∀ k, (up l k).length ≤ 1000000 := fun k => Nat.le_trans (up_le h0 k) hn
  have hlk : ∀ k, (up l (k + 1)).length = ((up l k).length + 1) / 2 := fun k => lft_length _
  have m0 := Mo.start w
  refine enter [v, .int .i64 ((i : Nat) : Int)] 33 Tryd.func13 rfl Tryd.ntmps13 (Nat.le_of_ble_eq_true rfl) ?_
  refine sq ?_
  refine cz [(0, v), (1, .int .i64 ((i : Nat) : Int))] ⟨rfl, rfl, trivial⟩ (fun _ => ?_)
  refine rp [0, 0] ?_
  refine k0 (wt_none rfl _) rfl (.slice none 0 0) (fun _ _ => exec_move (.const (.slice none 0 0)) (.inr rfl) _ rfl) ?_
  refine k0 (wt_none rfl _) rfl (.int .i64 0) (fun _ _ => exec_move (.const (.int .i64 0)) (.inr rfl) _ rfl) ?_
  refine kend ?_
  refine th_n ?_
  refine sq ?_
  refine sq ?_
  refine cz [(0, v), (1, .int .i64 ((i : Nat) : Int)), (4, .slice none 0 0), (5, .int .i64 0)] ⟨rfl, rfl, rfl, rfl, trivial⟩ (fun _ => ?_)
  refine rp [0, 0, 0, 0, 0, 1, 0, 0] ?_
  refine k0 (wt_none rfl _) rfl (.int .i64 ((i : Nat) : Int)) (fun _ _ => exec_move (.tmp 1) (.inl rfl) _ rfl) ?_
  refine k0 (wt_none rfl _) rfl (.bool false) (fun _ _ => x_lss_f (.tmp 7) (.const (.int .i64 0)) _ _ rfl i 0 .i64 (by omega) rfl rfl) ?_
  refine k0 (wt_none rfl _) rfl (.bool false) (fun _ _ => exec_move (.tmp 8) (.inl rfl) _ rfl) ?_
  refine k0 (wt_some rfl rfl rfl rfl) rfl (.int .i64 ((i : Nat) : Int)) (fun _ _ => exec_move (.tmp 1) (.inl rfl) _ rfl) ?_
  refine k0 (wt_some rfl rfl rfl rfl) rfl (v) (fun _ _ => exec_move (.tmp 0) (.inl rfl) _ rfl) ?_
  refine k1 (wt_some rfl rfl rfl rfl) rfl (.int .i64 (((up l 0).length : Nat) : Int)) (x_len Tryd.sh.sl (.tmp 11) rfl (Rc.at hv m0) rfl) ?_
  refine k0 (wt_some rfl rfl rfl rfl) rfl (.bool false) (fun _ _ => x_geq_f (.tmp 10) (.tmp 12) _ _ rfl i ((up l 0).length) .i64 (by omega) rfl rfl) ?_
  refine k0 (wt_none rfl _) rfl (.bool false) (fun _ _ => x_pick (.tmp 9) (.const (.bool true)) (.tmp 13) rfl false _ rfl rfl) ?_
  refine kend ?_
  refine th_n ?_
  refine cdf rfl ?_
  refine sk ?_
  refine th_n ?_
  refine sq ?_
  refine cz [(0, v), (1, .int .i64 ((i : Nat) : Int)), (4, .slice none 0 0), (5, .int .i64 0), (14, .bool false)] ⟨rfl, rfl, rfl, rfl, rfl, trivial⟩ (fun _ => ?_)
  refine rp [0] ?_
  refine k0 (wt_none rfl _) rfl (.slice none 0 0) (fun _ _ => exec_move (.const (.slice none 0 0)) (.inr rfl) _ rfl) ?_
  refine kend ?_
  refine th_n ?_
  refine sq ?_
  refine bk ?_
  have mm1 : Mo w w [.rda v ((up l 0).length) (cH (up l 0))] := m0.old hv (by rw [cH_length (hup 0)]; have := hpos 0; omega)
  have mm2 : Mo w w [.own 24 32 (.slice none 0 0) 0 ([]), .rda v ((up l 0).length) (cH (up l 0))] := mm1.nil 24 32
  refine lp (fun (xs : Nat × Nat × Value × Value) => [(0, xs.2.2.1), (1, .int .i64 ((xs.2.1 : Nat) : Int)), (6, xs.2.2.2)]) (fun (xs : Nat × Nat × Value × Value) w1 => (∀ j, j < xs.1 → 1 < (up l j).length) ∧ (xs.2.1 = i / 2 ^ xs.1) ∧ ((up l xs.1).length + xs.1 ≤ l.length) ∧ Mo w w1 [.rda xs.2.2.1 ((up l xs.1).length) (cH (up l xs.1)), .own 24 32 xs.2.2.2 xs.1 (cH (way l i xs.1))]) (fun (xs : Nat × Nat × Value × Value) => (up l xs.1).length) (⟨0, i, v, (.slice none 0 0)⟩) ⟨rfl, rfl, rfl, trivial⟩ ⟨(show ∀ j, j < 0 → 1 < (up l j).length from (fun j hj => absurd hj (Nat.not_lt_zero j))), (show i = i / 2 ^ 0 from (by simp)), (show (up l 0).length + 0 ≤ l.length from (Nat.le_refl _)), (show Mo w w [.rda v ((up l 0).length) (cH (up l 0)), .own 24 32 (.slice none 0 0) 0 (cH (way l i 0))] from mm2.pick [1, 0] (by decide) ⟨rfl, rfl, trivial⟩)⟩ ?_
  rintro ⟨k, p, u0, u6⟩ _ ww4 ⟨hh5, hh6, hh7, mm3⟩
  replace hh5 : ∀ j, j < k → 1 < (up l j).length := hh5
  replace hh6 : p = i / 2 ^ k := hh6
  replace hh7 : (up l k).length + k ≤ l.length := hh7
  replace mm3 : Mo w ww4 [.rda u0 ((up l k).length) (cH (up l k)), .own 24 32 u6 k (cH (way l i k))] := mm3
  refine cz [(0, u0), (1, .int .i64 ((p : Nat) : Int)), (6, u6)] ⟨rfl, rfl, rfl, trivial⟩ (fun _ => ?_)
  have hpl : p < (up l k).length := by rw [hh6]; exact place_lt hi k
  have hle1 := hle k
  by_cases hlt : (up l k).length > 1
  · -- round
    have hk1 := hlk k
    have hwy : way l i (k + 1) = way l i k ++ [atH (up l k) (mt p (up l k).length)] := by rw [hh6]; rfl
    refine sq ?_
    refine sq ?_
    refine cz [(0, u0), (1, .int .i64 ((p : Nat) : Int)), (6, u6)] ⟨rfl, rfl, rfl, trivial⟩ (fun _ => ?_)
    refine rp [0, 1, 0] ?_
    refine k0 (wt_none rfl _) rfl (u0) (fun _ _ => exec_move (.tmp 0) (.inl rfl) _ rfl) ?_
    refine k1 (wt_none rfl _) rfl (.int .i64 (((up l k).length : Nat) : Int)) (x_len Tryd.sh.sl (.tmp 15) rfl (mm3.rca 0 rfl) rfl) ?_
    refine k0 (wt_none rfl _) rfl (.bool true) (fun _ _ => x_gtr_t (.tmp 16) (.const (.int .i64 1)) _ _ rfl ((up l k).length) 1 .i64 (by omega) rfl rfl) ?_
    refine kend ?_
    refine th_n ?_
    refine cdt rfl ?_
    refine sk ?_
    refine th_n ?_
    refine bk ?_
    refine sq ?_
    refine cz [(0, u0), (1, .int .i64 ((p : Nat) : Int)), (6, u6), (17, .bool true)] ⟨rfl, rfl, rfl, rfl, trivial⟩ (fun _ => ?_)
    refine rp [0, 0, 0, 0, 1, 2, 1, 1, 2, 2, 0] ?_
    refine k0 (wt_none rfl _) rfl (u6) (fun _ _ => exec_move (.tmp 6) (.inl rfl) _ rfl) ?_
    refine k0 (wt_none rfl _) rfl (u0) (fun _ _ => exec_move (.tmp 0) (.inl rfl) _ rfl) ?_
    refine k0 (wt_none rfl _) rfl (.int .i64 ((p : Nat) : Int)) (fun _ _ => exec_move (.tmp 1) (.inl rfl) _ rfl) ?_
    refine k0 (wt_none rfl _) rfl (u0) (fun _ _ => exec_move (.tmp 0) (.inl rfl) _ rfl) ?_
    refine k1 (wt_none rfl _) rfl (.int .i64 (((up l k).length : Nat) : Int)) (x_len Tryd.sh.sl (.tmp 21) rfl (mm3.rca 0 rfl) rfl) ?_
    refine kq (wt_none rfl _) rfl (x_cl2 (v0 := .int .i64 ((p : Nat) : Int)) (v1 := .int .i64 (((up l k).length : Nat) : Int)) rfl rfl rfl (by kernel_rfl)) (.int .i64 ((mt p ((up l k).length) : Nat) : Int)) (mate_any p ((up l k).length) _ hpl (by omega)) trivial ?_
    refine k1 (wt_none rfl _) rfl (eP u0 ((mt p ((up l k).length)) * 32)) (x_ep Tryd.sh (.tmp 19) (.tmp 23) rfl (mm3.rca 0 rfl) (mt p ((up l k).length)) .i64 ((mt p ((up l k).length)) * 32) rfl (mt_lt hpl) rfl _ rfl rfl) ?_
    refine k1 (wt_none rfl _) rfl (.agg (cellsOf (atH (up l k) (mt p ((up l k).length)))).toArray) (x_lda Tryd.ah (.tmp 24) rfl (mm3.rca 0 rfl) ((mt p ((up l k).length)) * 32) (by omega) (cellsOf (atH (up l k) (mt p ((up l k).length)))) (by rw [cellsOf_length]; exact H32.at (hup k) (mt_lt hpl)) (by decide) (cH_get (hup k) (mt_lt hpl)) rfl) ?_
    refine k2 (wt_none rfl _) rfl (x_bld Tryd.sh 1 _ rfl mm3 (vH [atH (up l k) (mt p ((up l k).length))]) (cH [atH (up l k) (mt p ((up l k).length))]) rfl (by decide) (vH_size (H32.one (len_of (by rw [cellsOf_length]; exact H32.at (hup k) (mt_lt hpl))))) (vH_flat [atH (up l k) (mt p ((up l k).length))]) rfl) ?_
    rintro vv8 ww9 mm10
    refine ⟨trivial, ?_⟩
    refine k2 (wt_none rfl _) rfl (x_app Tryd.sh (.tmp 18) (.tmp 26) rfl mm10 2 rfl rfl (mm10.rc 0 rfl) (cH_len (H32.one (len_of (by rw [cellsOf_length]; exact H32.at (hup k) (mt_lt hpl)))) rfl) (cH_one _) (by omega) rfl) ?_
    rintro vv11 ww12 mm13
    have mm14 : Mo w ww12 [.own 24 32 vv8 1 (cH ([atH (up l k) (mt p ((up l k).length))])), .rda u0 ((up l k).length) (cH (up l k)), .own 24 32 vv11 (k + 1) (cH (way l i (k + 1)))] := (by have h := mm13; rw [← cH_append, (show (way l i k) ++ ([atH (up l k) (mt p ((up l k).length))]) = way l i (k + 1) by exact hwy.symm)] at h; exact h)
    refine ⟨trivial, ?_⟩
    refine k0 (wt_none rfl _) rfl (vv11) (fun _ _ => exec_move (.tmp 27) (.inr rfl) _ rfl) ?_
    refine kend ?_
    refine th_n ?_
    refine sq ?_
    refine cz [(0, u0), (1, .int .i64 ((p : Nat) : Int)), (6, vv11), (17, .bool true)] ⟨rfl, rfl, rfl, rfl, trivial⟩ (fun _ => ?_)
    refine rp [0, 2, 0] ?_
    refine k0 (wt_none rfl _) rfl (u0) (fun _ _ => exec_move (.tmp 0) (.inl rfl) _ rfl) ?_
    refine kc (wt_none rfl _) rfl (x_cl1 (v0 := u0) rfl rfl (by kernel_rfl)) (lifted_any u0 (up l k) _ (hup k) (mm14.rca 1 rfl) (hle _) (ht.gr mm14.below) (Nat.le_trans h2 mm14.size)) ?_
    rintro _ ww15 ⟨vv17, rfl, mm16⟩
    have mm18 : Mo w ww15 [.own 24 32 vv17 ((up l (k + 1)).length) (cH (up l (k + 1))), .own 24 32 vv8 1 (cH ([atH (up l k) (mt p ((up l k).length))])), .rda u0 ((up l k).length) (cH (up l k)), .own 24 32 vv11 (k + 1) (cH (way l i (k + 1)))] := mm14.join mm16
    refine ⟨_, rfl, trivial, ?_⟩
    refine k0 (wt_none rfl _) rfl (vv17) (fun _ _ => exec_move (.tmp 29) (.inr rfl) _ rfl) ?_
    refine kend ?_
    refine th_n ?_
    refine cz [(0, vv17), (1, .int .i64 ((p : Nat) : Int)), (6, vv11), (17, .bool true)] ⟨rfl, rfl, rfl, rfl, trivial⟩ (fun _ => ?_)
    refine rp [0, 0, 0] ?_
    refine k0 (wt_none rfl _) rfl (.int .i64 ((p : Nat) : Int)) (fun _ _ => exec_move (.tmp 1) (.inl rfl) _ rfl) ?_
    refine k0 (wt_none rfl _) rfl (.int .i64 ((p / 2 : Nat) : Int)) (fun _ _ => x_quo (.tmp 30) (.const (.int .i64 2)) _ _ rfl p 2 (p / 2) .i64 (by exact ⟨rfl, by omega, (show _ < 9223372036854775808 by omega)⟩) rfl rfl) ?_
    refine k0 (wt_none rfl _) rfl (.int .i64 ((p / 2 : Nat) : Int)) (fun _ _ => exec_move (.tmp 31) (.inr rfl) _ rfl) ?_
    refine kend ?_
    refine ib_n ?_
    refine th_n ?_
    have mm19 : Mo w ww15 [.rda vv17 ((up l (k + 1)).length) (cH (up l (k + 1))), .own 24 32 vv8 1 (cH ([atH (up l k) (mt p ((up l k).length))])), .rda u0 ((up l k).length) (cH (up l k)), .own 24 32 vv11 (k + 1) (cH (way l i (k + 1)))] := mm18.weak 0 rfl
    exact ⟨_, (⟨k + 1, p / 2, vv17, vv11⟩ : Nat × Nat × Value × Value), rfl, ⟨rfl, rfl, rfl, trivial⟩, ⟨(show ∀ j, j < (k + 1) → 1 < (up l j).length from (top_step hh5 hlt)), (show (p / 2) = i / 2 ^ (k + 1) from (by rw [hh6, Nat.pow_succ, Nat.div_div_eq_div_mul])), (show (up l (k + 1)).length + (k + 1) ≤ l.length from (by omega)), (show Mo w ww15 [.rda vv17 ((up l (k + 1)).length) (cH (up l (k + 1))), .own 24 32 vv11 (k + 1) (cH (way l i (k + 1)))] from mm19.pick [0, 3] (by decide) ⟨rfl, rfl, trivial⟩)⟩, (show (up l (k + 1)).length < (up l k).length by omega)⟩
  · -- behind the loop
    refine sq ?_
    refine sq ?_
    refine cz [(0, u0), (1, .int .i64 ((p : Nat) : Int)), (6, u6)] ⟨rfl, rfl, rfl, trivial⟩ (fun _ => ?_)
    refine rp [0, 1, 0] ?_
    refine k0 (wt_none rfl _) rfl (u0) (fun _ _ => exec_move (.tmp 0) (.inl rfl) _ rfl) ?_
    refine k1 (wt_none rfl _) rfl (.int .i64 (((up l k).length : Nat) : Int)) (x_len Tryd.sh.sl (.tmp 15) rfl (mm3.rca 0 rfl) rfl) ?_
    refine k0 (wt_none rfl _) rfl (.bool false) (fun _ _ => x_gtr_f (.tmp 16) (.const (.int .i64 1)) _ _ rfl ((up l k).length) 1 .i64 (by omega) rfl rfl) ?_
    refine kend ?_
    refine th_n ?_
    refine cdf rfl ?_
    refine ex ?_
    refine th_x ?_
    refine th_x ?_
    refine ib_x ?_
    refine th_n ?_
    refine sq ?_
    refine cz [(0, u0), (1, .int .i64 ((p : Nat) : Int)), (6, u6), (17, .bool false)] ⟨rfl, rfl, rfl, rfl, trivial⟩ (fun _ => ?_)
    refine rp [0, 0, 0] ?_
    refine k0 (wt_none rfl _) rfl (u6) (fun _ _ => exec_move (.tmp 6) (.inl rfl) _ rfl) ?_
    refine k0 (wt_none rfl _) rfl (u6) (fun _ _ => exec_move (.tmp 32) (.inr rfl) _ rfl) ?_
    refine k0 (wt_none rfl _) rfl (.int .i64 0) (fun _ _ => exec_move (.const (.int .i64 0)) (.inr rfl) _ rfl) ?_
    refine kend ?_
    refine th_n ?_
    refine re ?_
    refine rt2 rfl ?_
    have ek := topK_eq ⟨hh5, by omega⟩
    rw [ek]
    exact ⟨u6, rfl, mm3.pick [1] (by decide) ⟨rfl, trivial⟩⟩

set_option maxHeartbeats 1000000 in
theorem branch_doc (v : Value) (l : List (List UInt8)) (i : Nat) (w : World) (h32 : H32 l) (hv : Rc w.heap.size w v l.length (cH l)) (hn : l.length ≤ 1000000) (hi : i < l.length) :
    Calls Tryd.prog 14 #[v, .int .i64 ((i : Nat) : Int)] w fun e w' => ∃ v', e = .returned (.tuple #[v', .int .i64 0]) ∧ Mo w w' [.own 24 32 v' (topK l) (cH (way l i (topK l)))] := by
  have h0 : 0 < l.length := by omega
  have hup : ∀ k, H32 (up l k) := up_h32 h32
  have hl0 : (up l 0).length = l.length := rfl
  have hpos : ∀ k, 0 < (up l k).length := up_pos h0
  have hle : ∀ k, (up l k).length ≤ 1000000 := fun k => Nat.le_trans (up_le h0 k) hn
  have hlk : ∀ k, (up l (k + 1)).length = ((up l k).length + 1) / 2 := fun k => lft_length _
  have m0 := Mo.start w
  refine enter [v, .int .i64 ((i : Nat) : Int)] 30 Tryd.func14 rfl Tryd.ntmps14 (Nat.le_of_ble_eq_true rfl) ?_
  refine sq ?_
  refine cz [(0, v), (1, .int .i64 ((i : Nat) : Int))] ⟨rfl, rfl, trivial⟩ (fun _ => ?_)
  refine rp [0, 0] ?_
  refine k0 (wt_none rfl _) rfl (.slice none 0 0) (fun _ _ => exec_move (.const (.slice none 0 0)) (.inr rfl) _ rfl) ?_
  refine k0 (wt_none rfl _) rfl (.int .i64 0) (fun _ _ => exec_move (.const (.int .i64 0)) (.inr rfl) _ rfl) ?_
  refine kend ?_
  refine th_n ?_
  refine sq ?_
  refine sq ?_
  refine cz [(0, v), (1, .int .i64 ((i : Nat) : Int)), (4, .slice none 0 0), (5, .int .i64 0)] ⟨rfl, rfl, rfl, rfl, trivial⟩ (fun _ => ?_)
  refine rp [0, 0, 0, 0, 0, 1, 0, 0] ?_
  refine k0 (wt_none rfl _) rfl (.int .i64 ((i : Nat) : Int)) (fun _ _ => exec_move (.tmp 1) (.inl rfl) _ rfl) ?_
  refine k0 (wt_none rfl _) rfl (.bool false) (fun _ _ => x_lss_f (.tmp 7) (.const (.int .i64 0)) _ _ rfl i 0 .i64 (by omega) rfl rfl) ?_
  refine k0 (wt_none rfl _) rfl (.bool false) (fun _ _ => exec_move (.tmp 8) (.inl rfl) _ rfl) ?_
  refine k0 (wt_some rfl rfl rfl rfl) rfl (.int .i64 ((i : Nat) : Int)) (fun _ _ => exec_move (.tmp 1) (.inl rfl) _ rfl) ?_
  refine k0 (wt_some rfl rfl rfl rfl) rfl (v) (fun _ _ => exec_move (.tmp 0) (.inl rfl) _ rfl) ?_
  refine k1 (wt_some rfl rfl rfl rfl) rfl (.int .i64 (((up l 0).length : Nat) : Int)) (x_len Tryd.sh.sl (.tmp 11) rfl (Rc.at hv m0) rfl) ?_
  refine k0 (wt_some rfl rfl rfl rfl) rfl (.bool false) (fun _ _ => x_geq_f (.tmp 10) (.tmp 12) _ _ rfl i ((up l 0).length) .i64 (by omega) rfl rfl) ?_
  refine k0 (wt_none rfl _) rfl (.bool false) (fun _ _ => x_pick (.tmp 9) (.const (.bool true)) (.tmp 13) rfl false _ rfl rfl) ?_
  refine kend ?_
  refine th_n ?_
  refine cdf rfl ?_
  refine sk ?_
  refine th_n ?_
  refine sq ?_
  refine cz [(0, v), (1, .int .i64 ((i : Nat) : Int)), (4, .slice none 0 0), (5, .int .i64 0), (14, .bool false)] ⟨rfl, rfl, rfl, rfl, rfl, trivial⟩ (fun _ => ?_)
  refine rp [2, 0] ?_
  refine k2 (wt_none rfl _) rfl (x_bld Tryd.sh 0 _ rfl m0 [] [] rfl (by decide) (fun _ h => absurd h List.not_mem_nil) rfl rfl) ?_
  rintro vv1 ww2 mm3
  refine ⟨trivial, ?_⟩
  refine k0 (wt_none rfl _) rfl (vv1) (fun _ _ => exec_move (.tmp 15) (.inr rfl) _ rfl) ?_
  refine kend ?_
  refine th_n ?_
  refine sq ?_
  refine bk ?_
  have mm4 : Mo w ww2 [.rda v ((up l 0).length) (cH (up l 0)), .own 24 32 vv1 0 ([])] := mm3.old hv (by rw [cH_length (hup 0)]; have := hpos 0; omega)
  refine lp (fun (xs : Nat × Nat × Value × Value) => [(0, xs.2.2.1), (1, .int .i64 ((xs.2.1 : Nat) : Int)), (6, xs.2.2.2)]) (fun (xs : Nat × Nat × Value × Value) w1 => (∀ j, j < xs.1 → 1 < (up l j).length) ∧ (xs.2.1 = i / 2 ^ xs.1) ∧ ((up l xs.1).length + xs.1 ≤ l.length) ∧ Mo w w1 [.rda xs.2.2.1 ((up l xs.1).length) (cH (up l xs.1)), .own 24 32 xs.2.2.2 xs.1 (cH (way l i xs.1))]) (fun (xs : Nat × Nat × Value × Value) => (up l xs.1).length) (⟨0, i, v, vv1⟩) ⟨rfl, rfl, rfl, trivial⟩ ⟨(show ∀ j, j < 0 → 1 < (up l j).length from (fun j hj => absurd hj (Nat.not_lt_zero j))), (show i = i / 2 ^ 0 from (by simp)), (show (up l 0).length + 0 ≤ l.length from (Nat.le_refl _)), (show Mo w ww2 [.rda v ((up l 0).length) (cH (up l 0)), .own 24 32 vv1 0 (cH (way l i 0))] from mm4)⟩ ?_
  rintro ⟨k, p, u0, u6⟩ _ ww6 ⟨hh7, hh8, hh9, mm5⟩
  replace hh7 : ∀ j, j < k → 1 < (up l j).length := hh7
  replace hh8 : p = i / 2 ^ k := hh8
  replace hh9 : (up l k).length + k ≤ l.length := hh9
  replace mm5 : Mo w ww6 [.rda u0 ((up l k).length) (cH (up l k)), .own 24 32 u6 k (cH (way l i k))] := mm5
  refine cz [(0, u0), (1, .int .i64 ((p : Nat) : Int)), (6, u6)] ⟨rfl, rfl, rfl, trivial⟩ (fun _ => ?_)
  have hpl : p < (up l k).length := by rw [hh8]; exact place_lt hi k
  have hle1 := hle k
  by_cases hlt : (up l k).length > 1
  · -- round
    have hk1 := hlk k
    have hwy : way l i (k + 1) = way l i k ++ [atH (up l k) (mt p (up l k).length)] := by rw [hh8]; rfl
    refine sq ?_
    refine sq ?_
    refine cz [(0, u0), (1, .int .i64 ((p : Nat) : Int)), (6, u6)] ⟨rfl, rfl, rfl, trivial⟩ (fun _ => ?_)
    refine rp [0, 1, 0] ?_
    refine k0 (wt_none rfl _) rfl (u0) (fun _ _ => exec_move (.tmp 0) (.inl rfl) _ rfl) ?_
    refine k1 (wt_none rfl _) rfl (.int .i64 (((up l k).length : Nat) : Int)) (x_len Tryd.sh.sl (.tmp 16) rfl (mm5.rca 0 rfl) rfl) ?_
    refine k0 (wt_none rfl _) rfl (.bool true) (fun _ _ => x_gtr_t (.tmp 17) (.const (.int .i64 1)) _ _ rfl ((up l k).length) 1 .i64 (by omega) rfl rfl) ?_
    refine kend ?_
    refine th_n ?_
    refine cdt rfl ?_
    refine sk ?_
    refine th_n ?_
    refine bk ?_
    refine sq ?_
    refine cz [(0, u0), (1, .int .i64 ((p : Nat) : Int)), (6, u6), (18, .bool true)] ⟨rfl, rfl, rfl, rfl, trivial⟩ (fun _ => ?_)
    refine rp [0, 0, 0, 2, 2, 2, 0] ?_
    refine k0 (wt_none rfl _) rfl (u6) (fun _ _ => exec_move (.tmp 6) (.inl rfl) _ rfl) ?_
    refine k0 (wt_none rfl _) rfl (u0) (fun _ _ => exec_move (.tmp 0) (.inl rfl) _ rfl) ?_
    refine k0 (wt_none rfl _) rfl (.int .i64 ((p : Nat) : Int)) (fun _ _ => exec_move (.tmp 1) (.inl rfl) _ rfl) ?_
    refine kc (wt_none rfl _) rfl (x_cl2 (v0 := u0) (v1 := .int .i64 ((p : Nat) : Int)) rfl rfl rfl (by kernel_rfl)) (partner_doc u0 (up l k) p _ (hup k) (mm5.rca 0 rfl) hpl (by omega)) ?_
    rintro _ ww10 ⟨rfl, mm11⟩
    have mm12 : Mo w ww10 [.rda u0 ((up l k).length) (cH (up l k)), .own 24 32 u6 k (cH (way l i k))] := mm5.gr mm11
    refine ⟨_, rfl, trivial, ?_⟩
    refine k2 (wt_none rfl _) rfl (x_bld Tryd.sh 1 _ rfl mm12 (vH [atH (up l k) (mt p ((up l k).length))]) (cH [atH (up l k) (mt p ((up l k).length))]) rfl (by decide) (vH_size (H32.one (len_of (by rw [cellsOf_length]; exact H32.at (hup k) (mt_lt hpl))))) (vH_flat [atH (up l k) (mt p ((up l k).length))]) rfl) ?_
    rintro vv13 ww14 mm15
    refine ⟨trivial, ?_⟩
    refine k2 (wt_none rfl _) rfl (x_app Tryd.sh (.tmp 19) (.tmp 23) rfl mm15 2 rfl rfl (mm15.rc 0 rfl) (cH_len (H32.one (len_of (by rw [cellsOf_length]; exact H32.at (hup k) (mt_lt hpl)))) rfl) (cH_one _) (by omega) rfl) ?_
    rintro vv16 ww17 mm18
    have mm19 : Mo w ww17 [.own 24 32 vv13 1 (cH ([atH (up l k) (mt p ((up l k).length))])), .rda u0 ((up l k).length) (cH (up l k)), .own 24 32 vv16 (k + 1) (cH (way l i (k + 1)))] := (by have h := mm18; rw [← cH_append, (show (way l i k) ++ ([atH (up l k) (mt p ((up l k).length))]) = way l i (k + 1) by exact hwy.symm)] at h; exact h)
    refine ⟨trivial, ?_⟩
    refine k0 (wt_none rfl _) rfl (vv16) (fun _ _ => exec_move (.tmp 24) (.inr rfl) _ rfl) ?_
    refine kend ?_
    refine th_n ?_
    refine sq ?_
    refine cz [(0, u0), (1, .int .i64 ((p : Nat) : Int)), (6, vv16), (18, .bool true)] ⟨rfl, rfl, rfl, rfl, trivial⟩ (fun _ => ?_)
    refine rp [0, 2, 0] ?_
    refine k0 (wt_none rfl _) rfl (u0) (fun _ _ => exec_move (.tmp 0) (.inl rfl) _ rfl) ?_
    refine kc (wt_none rfl _) rfl (x_cl1 (v0 := u0) rfl rfl (by kernel_rfl)) (lifted_doc u0 (up l k) _ (hup k) (mm19.rca 1 rfl) (hle _)) ?_
    rintro _ ww20 ⟨vv22, rfl, mm21⟩
    have mm23 : Mo w ww20 [.own 24 32 vv22 ((up l (k + 1)).length) (cH (up l (k + 1))), .own 24 32 vv13 1 (cH ([atH (up l k) (mt p ((up l k).length))])), .rda u0 ((up l k).length) (cH (up l k)), .own 24 32 vv16 (k + 1) (cH (way l i (k + 1)))] := mm19.join mm21
    refine ⟨_, rfl, trivial, ?_⟩
    refine k0 (wt_none rfl _) rfl (vv22) (fun _ _ => exec_move (.tmp 26) (.inr rfl) _ rfl) ?_
    refine kend ?_
    refine th_n ?_
    refine cz [(0, vv22), (1, .int .i64 ((p : Nat) : Int)), (6, vv16), (18, .bool true)] ⟨rfl, rfl, rfl, rfl, trivial⟩ (fun _ => ?_)
    refine rp [0, 0, 0] ?_
    refine k0 (wt_none rfl _) rfl (.int .i64 ((p : Nat) : Int)) (fun _ _ => exec_move (.tmp 1) (.inl rfl) _ rfl) ?_
    refine k0 (wt_none rfl _) rfl (.int .i64 ((p / 2 : Nat) : Int)) (fun _ _ => x_quo (.tmp 27) (.const (.int .i64 2)) _ _ rfl p 2 (p / 2) .i64 (by exact ⟨rfl, by omega, (show _ < 9223372036854775808 by omega)⟩) rfl rfl) ?_
    refine k0 (wt_none rfl _) rfl (.int .i64 ((p / 2 : Nat) : Int)) (fun _ _ => exec_move (.tmp 28) (.inr rfl) _ rfl) ?_
    refine kend ?_
    refine ib_n ?_
    refine th_n ?_
    have mm24 : Mo w ww20 [.rda vv22 ((up l (k + 1)).length) (cH (up l (k + 1))), .own 24 32 vv13 1 (cH ([atH (up l k) (mt p ((up l k).length))])), .rda u0 ((up l k).length) (cH (up l k)), .own 24 32 vv16 (k + 1) (cH (way l i (k + 1)))] := mm23.weak 0 rfl
    exact ⟨_, (⟨k + 1, p / 2, vv22, vv16⟩ : Nat × Nat × Value × Value), rfl, ⟨rfl, rfl, rfl, trivial⟩, ⟨(show ∀ j, j < (k + 1) → 1 < (up l j).length from (top_step hh7 hlt)), (show (p / 2) = i / 2 ^ (k + 1) from (by rw [hh8, Nat.pow_succ, Nat.div_div_eq_div_mul])), (show (up l (k + 1)).length + (k + 1) ≤ l.length from (by omega)), (show Mo w ww20 [.rda vv22 ((up l (k + 1)).length) (cH (up l (k + 1))), .own 24 32 vv16 (k + 1) (cH (way l i (k + 1)))] from mm24.pick [0, 3] (by decide) ⟨rfl, rfl, trivial⟩)⟩, (show (up l (k + 1)).length < (up l k).length by omega)⟩
  · -- behind the loop
    refine sq ?_
    refine sq ?_
    refine cz [(0, u0), (1, .int .i64 ((p : Nat) : Int)), (6, u6)] ⟨rfl, rfl, rfl, trivial⟩ (fun _ => ?_)
    refine rp [0, 1, 0] ?_
    refine k0 (wt_none rfl _) rfl (u0) (fun _ _ => exec_move (.tmp 0) (.inl rfl) _ rfl) ?_
    refine k1 (wt_none rfl _) rfl (.int .i64 (((up l k).length : Nat) : Int)) (x_len Tryd.sh.sl (.tmp 16) rfl (mm5.rca 0 rfl) rfl) ?_
    refine k0 (wt_none rfl _) rfl (.bool false) (fun _ _ => x_gtr_f (.tmp 17) (.const (.int .i64 1)) _ _ rfl ((up l k).length) 1 .i64 (by omega) rfl rfl) ?_
    refine kend ?_
    refine th_n ?_
    refine cdf rfl ?_
    refine ex ?_
    refine th_x ?_
    refine th_x ?_
    refine ib_x ?_
    refine th_n ?_
    refine sq ?_
    refine cz [(0, u0), (1, .int .i64 ((p : Nat) : Int)), (6, u6), (18, .bool false)] ⟨rfl, rfl, rfl, rfl, trivial⟩ (fun _ => ?_)
    refine rp [0, 0, 0] ?_
    refine k0 (wt_none rfl _) rfl (u6) (fun _ _ => exec_move (.tmp 6) (.inl rfl) _ rfl) ?_
    refine k0 (wt_none rfl _) rfl (u6) (fun _ _ => exec_move (.tmp 29) (.inr rfl) _ rfl) ?_
    refine k0 (wt_none rfl _) rfl (.int .i64 0) (fun _ _ => exec_move (.const (.int .i64 0)) (.inr rfl) _ rfl) ?_
    refine kend ?_
    refine th_n ?_
    refine re ?_
    refine rt2 rfl ?_
    have ek := topK_eq ⟨hh7, by omega⟩
    rw [ek]
    exact ⟨u6, rfl, mm5.pick [1] (by decide) ⟨rfl, trivial⟩⟩

set_option maxHeartbeats 1000000 in
theorem branch_any_neg (v : Value) (z : Int) (w : World) (hz : z < 0) :
    Calls Tryd.prog 13 #[v, .int .i64 z] w fun e w' => e = .returned (.tuple #[.slice none 0 0, .int .i64 1]) ∧ Below w.heap.size w w' := by
  have m0 := Mo.start w
  refine enter [v, .int .i64 z] 33 Tryd.func13 rfl Tryd.ntmps13 (Nat.le_of_ble_eq_true rfl) ?_
  refine sq ?_
  refine cz [(0, v), (1, .int .i64 z)] ⟨rfl, rfl, trivial⟩ (fun _ => ?_)
  refine rp [0, 0] ?_
  refine k0 (wt_none rfl _) rfl (.slice none 0 0) (fun _ _ => exec_move (.const (.slice none 0 0)) (.inr rfl) _ rfl) ?_
  refine k0 (wt_none rfl _) rfl (.int .i64 0) (fun _ _ => exec_move (.const (.int .i64 0)) (.inr rfl) _ rfl) ?_
  refine kend ?_
  refine th_n ?_
  refine sq ?_
  refine sq ?_
  refine cz [(0, v), (1, .int .i64 z), (4, .slice none 0 0), (5, .int .i64 0)] ⟨rfl, rfl, rfl, rfl, trivial⟩ (fun _ => ?_)
  refine rp [0, 0, 0, 0, 0, 0, 0, 0] ?_
  refine k0 (wt_none rfl _) rfl (.int .i64 z) (fun _ _ => exec_move (.tmp 1) (.inl rfl) _ rfl) ?_
  refine k0 (wt_none rfl _) rfl (.bool true) (fun _ _ => x_lss (.tmp 7) (.const (.int .i64 0)) _ _ rfl z 0 true (by simp; omega) .i64 rfl rfl) ?_
  refine k0 (wt_none rfl _) rfl (.bool true) (fun _ _ => exec_move (.tmp 8) (.inl rfl) _ rfl) ?_
  refine kn (wt_not rfl rfl rfl rfl) ?_
  refine kn (wt_not rfl rfl rfl rfl) ?_
  refine kn (wt_not rfl rfl rfl rfl) ?_
  refine kn (wt_not rfl rfl rfl rfl) ?_
  refine k0 (wt_none rfl _) rfl (.bool true) (fun _ _ => x_pick (.tmp 9) (.const (.bool true)) (.tmp 13) rfl true _ rfl rfl) ?_
  refine kend ?_
  refine th_n ?_
  refine cdt rfl ?_
  refine sq ?_
  refine cz [(0, v), (1, .int .i64 z), (4, .slice none 0 0), (5, .int .i64 0), (14, .bool true)] ⟨rfl, rfl, rfl, rfl, rfl, trivial⟩ (fun _ => ?_)
  refine rp [0, 0] ?_
  refine k0 (wt_none rfl _) rfl (.slice none 0 0) (fun _ _ => exec_move (.const (.slice none 0 0)) (.inr rfl) _ rfl) ?_
  refine k0 (wt_none rfl _) rfl (.int .i64 1) (fun _ _ => exec_move (.const (.int .i64 1)) (.inr rfl) _ rfl) ?_
  refine kend ?_
  refine th_n ?_
  refine re ?_
  refine th_r ?_
  refine rt2 rfl ?_
  exact ⟨rfl, m0.below⟩

set_option maxHeartbeats 1000000 in
theorem branch_any_big (v : Value) (l : List (List UInt8)) (i : Nat) (w : World) (hv : Rc w.heap.size w v l.length (cH l)) (hz : i ≥ l.length) :
    Calls Tryd.prog 13 #[v, .int .i64 ((i : Nat) : Int)] w fun e w' => e = .returned (.tuple #[.slice none 0 0, .int .i64 1]) ∧ Below w.heap.size w w' := by
  have m0 := Mo.start w
  refine enter [v, .int .i64 ((i : Nat) : Int)] 33 Tryd.func13 rfl Tryd.ntmps13 (Nat.le_of_ble_eq_true rfl) ?_
  refine sq ?_
  refine cz [(0, v), (1, .int .i64 ((i : Nat) : Int))] ⟨rfl, rfl, trivial⟩ (fun _ => ?_)
  refine rp [0, 0] ?_
  refine k0 (wt_none rfl _) rfl (.slice none 0 0) (fun _ _ => exec_move (.const (.slice none 0 0)) (.inr rfl) _ rfl) ?_
  refine k0 (wt_none rfl _) rfl (.int .i64 0) (fun _ _ => exec_move (.const (.int .i64 0)) (.inr rfl) _ rfl) ?_
  refine kend ?_
  refine th_n ?_
  refine sq ?_
  refine sq ?_
  refine cz [(0, v), (1, .int .i64 ((i : Nat) : Int)), (4, .slice none 0 0), (5, .int .i64 0)] ⟨rfl, rfl, rfl, rfl, trivial⟩ (fun _ => ?_)
  refine rp [0, 0, 0, 0, 0, 1, 0, 0] ?_
  refine k0 (wt_none rfl _) rfl (.int .i64 ((i : Nat) : Int)) (fun _ _ => exec_move (.tmp 1) (.inl rfl) _ rfl) ?_
  refine k0 (wt_none rfl _) rfl (.bool false) (fun _ _ => x_lss_f (.tmp 7) (.const (.int .i64 0)) _ _ rfl i 0 .i64 (by omega) rfl rfl) ?_
  refine k0 (wt_none rfl _) rfl (.bool false) (fun _ _ => exec_move (.tmp 8) (.inl rfl) _ rfl) ?_
  refine k0 (wt_some rfl rfl rfl rfl) rfl (.int .i64 ((i : Nat) : Int)) (fun _ _ => exec_move (.tmp 1) (.inl rfl) _ rfl) ?_
  refine k0 (wt_some rfl rfl rfl rfl) rfl (v) (fun _ _ => exec_move (.tmp 0) (.inl rfl) _ rfl) ?_
  refine k1 (wt_some rfl rfl rfl rfl) rfl (.int .i64 ((l.length : Nat) : Int)) (x_len Tryd.sh.sl (.tmp 11) rfl (Rc.at hv m0) rfl) ?_
  refine k0 (wt_some rfl rfl rfl rfl) rfl (.bool true) (fun _ _ => x_geq_t (.tmp 10) (.tmp 12) _ _ rfl i l.length .i64 (by omega) rfl rfl) ?_
  refine k0 (wt_none rfl _) rfl (.bool true) (fun _ _ => x_pick (.tmp 9) (.const (.bool true)) (.tmp 13) rfl false _ rfl rfl) ?_
  refine kend ?_
  refine th_n ?_
  refine cdt rfl ?_
  refine sq ?_
  refine cz [(0, v), (1, .int .i64 ((i : Nat) : Int)), (4, .slice none 0 0), (5, .int .i64 0), (14, .bool true)] ⟨rfl, rfl, rfl, rfl, rfl, trivial⟩ (fun _ => ?_)
  refine rp [0, 0] ?_
  refine k0 (wt_none rfl _) rfl (.slice none 0 0) (fun _ _ => exec_move (.const (.slice none 0 0)) (.inr rfl) _ rfl) ?_
  refine k0 (wt_none rfl _) rfl (.int .i64 1) (fun _ _ => exec_move (.const (.int .i64 1)) (.inr rfl) _ rfl) ?_
  refine kend ?_
  refine th_n ?_
  refine re ?_
  refine th_r ?_
  refine rt2 rfl ?_
  exact ⟨rfl, m0.below⟩

set_option maxHeartbeats 1000000 in
theorem branch_doc_neg (v : Value) (z : Int) (w : World) (hz : z < 0) :
    Calls Tryd.prog 14 #[v, .int .i64 z] w fun e w' => e = .returned (.tuple #[.slice none 0 0, .int .i64 1]) ∧ Below w.heap.size w w' := by
  have m0 := Mo.start w
  refine enter [v, .int .i64 z] 30 Tryd.func14 rfl Tryd.ntmps14 (Nat.le_of_ble_eq_true rfl) ?_
  refine sq ?_
  refine cz [(0, v), (1, .int .i64 z)] ⟨rfl, rfl, trivial⟩ (fun _ => ?_)
  refine rp [0, 0] ?_
  refine k0 (wt_none rfl _) rfl (.slice none 0 0) (fun _ _ => exec_move (.const (.slice none 0 0)) (.inr rfl) _ rfl) ?_
  refine k0 (wt_none rfl _) rfl (.int .i64 0) (fun _ _ => exec_move (.const (.int .i64 0)) (.inr rfl) _ rfl) ?_
  refine kend ?_
  refine th_n ?_
  refine sq ?_
  refine sq ?_
  refine cz [(0, v), (1, .int .i64 z), (4, .slice none 0 0), (5, .int .i64 0)] ⟨rfl, rfl, rfl, rfl, trivial⟩ (fun _ => ?_)
  refine rp [0, 0, 0, 0, 0, 0, 0, 0] ?_
  refine k0 (wt_none rfl _) rfl (.int .i64 z) (fun _ _ => exec_move (.tmp 1) (.inl rfl) _ rfl) ?_
  refine k0 (wt_none rfl _) rfl (.bool true) (fun _ _ => x_lss (.tmp 7) (.const (.int .i64 0)) _ _ rfl z 0 true (by simp; omega) .i64 rfl rfl) ?_
  refine k0 (wt_none rfl _) rfl (.bool true) (fun _ _ => exec_move (.tmp 8) (.inl rfl) _ rfl) ?_
  refine kn (wt_not rfl rfl rfl rfl) ?_
  refine kn (wt_not rfl rfl rfl rfl) ?_
  refine kn (wt_not rfl rfl rfl rfl) ?_
  refine kn (wt_not rfl rfl rfl rfl) ?_
  refine k0 (wt_none rfl _) rfl (.bool true) (fun _ _ => x_pick (.tmp 9) (.const (.bool true)) (.tmp 13) rfl true _ rfl rfl) ?_
  refine kend ?_
  refine th_n ?_
  refine cdt rfl ?_
  refine sq ?_
  refine cz [(0, v), (1, .int .i64 z), (4, .slice none 0 0), (5, .int .i64 0), (14, .bool true)] ⟨rfl, rfl, rfl, rfl, rfl, trivial⟩ (fun _ => ?_)
  refine rp [0, 0] ?_
  refine k0 (wt_none rfl _) rfl (.slice none 0 0) (fun _ _ => exec_move (.const (.slice none 0 0)) (.inr rfl) _ rfl) ?_
  refine k0 (wt_none rfl _) rfl (.int .i64 1) (fun _ _ => exec_move (.const (.int .i64 1)) (.inr rfl) _ rfl) ?_
  refine kend ?_
  refine th_n ?_
  refine re ?_
  refine th_r ?_
  refine rt2 rfl ?_
  exact ⟨rfl, m0.below⟩

set_option maxHeartbeats 1000000 in
theorem branch_doc_big (v : Value) (l : List (List UInt8)) (i : Nat) (w : World) (hv : Rc w.heap.size w v l.length (cH l)) (hz : i ≥ l.length) :
    Calls Tryd.prog 14 #[v, .int .i64 ((i : Nat) : Int)] w fun e w' => e = .returned (.tuple #[.slice none 0 0, .int .i64 1]) ∧ Below w.heap.size w w' := by
  have m0 := Mo.start w
  refine enter [v, .int .i64 ((i : Nat) : Int)] 30 Tryd.func14 rfl Tryd.ntmps14 (Nat.le_of_ble_eq_true rfl) ?_
  refine sq ?_
  refine cz [(0, v), (1, .int .i64 ((i : Nat) : Int))] ⟨rfl, rfl, trivial⟩ (fun _ => ?_)
  refine rp [0, 0] ?_
  refine k0 (wt_none rfl _) rfl (.slice none 0 0) (fun _ _ => exec_move (.const (.slice none 0 0)) (.inr rfl) _ rfl) ?_
  refine k0 (wt_none rfl _) rfl (.int .i64 0) (fun _ _ => exec_move (.const (.int .i64 0)) (.inr rfl) _ rfl) ?_
  refine kend ?_
  refine th_n ?_
  refine sq ?_
  refine sq ?_
  refine cz [(0, v), (1, .int .i64 ((i : Nat) : Int)), (4, .slice none 0 0), (5, .int .i64 0)] ⟨rfl, rfl, rfl, rfl, trivial⟩ (fun _ => ?_)
  refine rp [0, 0, 0, 0, 0, 1, 0, 0] ?_
  refine k0 (wt_none rfl _) rfl (.int .i64 ((i : Nat) : Int)) (fun _ _ => exec_move (.tmp 1) (.inl rfl) _ rfl) ?_
  refine k0 (wt_none rfl _) rfl (.bool false) (fun _ _ => x_lss_f (.tmp 7) (.const (.int .i64 0)) _ _ rfl i 0 .i64 (by omega) rfl rfl) ?_
  refine k0 (wt_none rfl _) rfl (.bool false) (fun _ _ => exec_move (.tmp 8) (.inl rfl) _ rfl) ?_
  refine k0 (wt_some rfl rfl rfl rfl) rfl (.int .i64 ((i : Nat) : Int)) (fun _ _ => exec_move (.tmp 1) (.inl rfl) _ rfl) ?_
  refine k0 (wt_some rfl rfl rfl rfl) rfl (v) (fun _ _ => exec_move (.tmp 0) (.inl rfl) _ rfl) ?_
  refine k1 (wt_some rfl rfl rfl rfl) rfl (.int .i64 ((l.length : Nat) : Int)) (x_len Tryd.sh.sl (.tmp 11) rfl (Rc.at hv m0) rfl) ?_
  refine k0 (wt_some rfl rfl rfl rfl) rfl (.bool true) (fun _ _ => x_geq_t (.tmp 10) (.tmp 12) _ _ rfl i l.length .i64 (by omega) rfl rfl) ?_
  refine k0 (wt_none rfl _) rfl (.bool true) (fun _ _ => x_pick (.tmp 9) (.const (.bool true)) (.tmp 13) rfl false _ rfl rfl) ?_
  refine kend ?_
  refine th_n ?_
  refine cdt rfl ?_
  refine sq ?_
  refine cz [(0, v), (1, .int .i64 ((i : Nat) : Int)), (4, .slice none 0 0), (5, .int .i64 0), (14, .bool true)] ⟨rfl, rfl, rfl, rfl, rfl, trivial⟩ (fun _ => ?_)
  refine rp [0, 0] ?_
  refine k0 (wt_none rfl _) rfl (.slice none 0 0) (fun _ _ => exec_move (.const (.slice none 0 0)) (.inr rfl) _ rfl) ?_
  refine k0 (wt_none rfl _) rfl (.int .i64 1) (fun _ _ => exec_move (.const (.int .i64 1)) (.inr rfl) _ rfl) ?_
  refine kend ?_
  refine th_n ?_
  refine re ?_
  refine th_r ?_
  refine rt2 rfl ?_
  exact ⟨rfl, m0.below⟩

set_option maxHeartbeats 1000000 in
theorem climb_any (lf : List UInt8) (z : Int) (v : Value) (b : List (List UInt8)) (w : World) (hx : (cellsOf lf).length = 32) (h32 : H32 b) (hv : Rc w.heap.size w v b.length (cH b)) (hn : b.length ≤ 1000000) (hz : z < 9223372036854775808) (ht : Tabs w) (h2 : 2 ≤ w.heap.size) :
    Calls Tryd.prog 15 #[.agg (cellsOf lf).toArray, .int .i64 z, v] w fun e w' => e = .returned (.agg (cellsOf (clb lf z.toNat b b.length)).toArray) ∧ Below w.heap.size w w' := by
  have m0 := Mo.start w
  refine enter [.agg (cellsOf lf).toArray, .int .i64 z, v] 30 Tryd.func15 rfl Tryd.ntmps15 (Nat.le_of_ble_eq_true rfl) ?_
  refine sq ?_
  refine cz [(0, .agg (cellsOf lf).toArray), (1, .int .i64 z), (2, v)] ⟨rfl, rfl, rfl, trivial⟩ (fun _ => ?_)
  refine rp [2, 2] ?_
  refine k2 (wt_none rfl _) rfl (x_box 24 (.tmp 0) rfl m0 (cellsOf lf) rfl) ?_
  rintro _ ww1 ⟨gg3, rfl, mm2⟩
  refine ⟨trivial, ?_⟩
  refine k2 (wt_none rfl _) rfl (x_alc Tryd.ah rfl mm2 (cellsOf (List.replicate 32 0)) rfl) ?_
  rintro _ ww5 ⟨gg7, rfl, mm6⟩
  refine ⟨trivial, ?_⟩
  refine kend ?_
  refine th_n ?_
  refine sq ?_
  refine cz [(0, .agg (cellsOf lf).toArray), (1, .int .i64 z), (2, v), (3, .pointer (some ⟨gg3, 0, none⟩)), (6, .pointer (some ⟨gg7, 0, none⟩))] ⟨rfl, rfl, rfl, rfl, rfl, trivial⟩ (fun _ => ?_)
  refine rp [0, 0, 0] ?_
  refine k0 (wt_none rfl _) rfl (.int .i64 z) (fun _ _ => exec_move (.tmp 1) (.inl rfl) _ rfl) ?_
  refine k0 (wt_none rfl _) rfl (.int .i64 ((z.toNat : Nat) : Int)) (fun _ _ => x_max (.tmp 9) (.const (.int .i64 0)) _ rfl .i64 z 0 ((z.toNat : Nat) : Int) (by omega) rfl rfl) ?_
  refine k0 (wt_none rfl _) rfl (.int .i64 ((z.toNat : Nat) : Int)) (fun _ _ => exec_move (.tmp 10) (.inr rfl) _ rfl) ?_
  refine kend ?_
  refine th_n ?_
  refine sq ?_
  refine sq ?_
  refine cz [(0, .agg (cellsOf lf).toArray), (1, .int .i64 ((z.toNat : Nat) : Int)), (2, v), (3, .pointer (some ⟨gg3, 0, none⟩)), (6, .pointer (some ⟨gg7, 0, none⟩))] ⟨rfl, rfl, rfl, rfl, rfl, trivial⟩ (fun _ => ?_)
  refine rp [0, 1, 0] ?_
  refine k0 (wt_none rfl _) rfl (v) (fun _ _ => exec_move (.tmp 2) (.inl rfl) _ rfl) ?_
  refine k1 (wt_none rfl _) rfl (.int .i64 ((b.length : Nat) : Int)) (x_len Tryd.sh.sl (.tmp 11) rfl (Rc.at hv mm6) rfl) ?_
  refine k0 (wt_none rfl _) rfl (.int .i64 0) (fun _ _ => exec_move (.const (.int .i64 0)) (.inl rfl) _ rfl) ?_
  refine kend ?_
  refine th_n ?_
  refine bk ?_
  have mm8 : Mo w ww5 [.arr gg7 24 (cellsOf (List.replicate 32 0)), .arr gg3 24 (cellsOf (clb lf z.toNat b 0))] := (by have h := mm6; rw [show cellsOf lf = cellsOf (clb lf z.toNat b 0) from (by rfl)] at h; exact h)
  refine lp (fun (xs : Nat × Nat) => [(1, .int .i64 ((xs.2 : Nat) : Int)), (3, .pointer (some ⟨gg3, 0, none⟩)), (6, .pointer (some ⟨gg7, 0, none⟩)), (11, v), (12, .int .i64 ((b.length : Nat) : Int)), (13, .int .i64 ((xs.1 : Nat) : Int))]) (fun (xs : Nat × Nat) w1 => (xs.1 ≤ b.length) ∧ (xs.2 = z.toNat / 2 ^ xs.1) ∧ Mo w w1 [.arr gg3 24 (cellsOf (clb lf z.toNat b xs.1)), .arr gg7 24 (cellsOf (List.replicate 32 0))]) (fun (xs : Nat × Nat) => b.length - xs.1) (⟨0, z.toNat⟩) ⟨rfl, rfl, rfl, rfl, rfl, rfl, trivial⟩ ⟨(show 0 ≤ b.length from (Nat.zero_le _)), (show z.toNat = z.toNat / 2 ^ 0 from (by simp)), (show Mo w ww5 [.arr gg3 24 (cellsOf (clb lf z.toNat b 0)), .arr gg7 24 (cellsOf (List.replicate 32 0))] from mm8.pick [1, 0] (by decide) ⟨rfl, rfl, trivial⟩)⟩ ?_
  rintro ⟨k, p⟩ _ ww10 ⟨hh11, hh12, mm9⟩
  replace hh11 : k ≤ b.length := hh11
  replace hh12 : p = z.toNat / 2 ^ k := hh12
  replace mm9 : Mo w ww10 [.arr gg3 24 (cellsOf (clb lf z.toNat b k)), .arr gg7 24 (cellsOf (List.replicate 32 0))] := mm9
  refine cz [(1, .int .i64 ((p : Nat) : Int)), (3, .pointer (some ⟨gg3, 0, none⟩)), (6, .pointer (some ⟨gg7, 0, none⟩)), (11, v), (12, .int .i64 ((b.length : Nat) : Int)), (13, .int .i64 ((k : Nat) : Int))] ⟨rfl, rfl, rfl, rfl, rfl, rfl, trivial⟩ (fun _ => ?_)
  have hp9 : p ≤ z.toNat := by rw [hh12]; exact Nat.div_le_self _ _
  by_cases hlt : k < b.length
  · -- round
    refine sq ?_
    refine cz [(1, .int .i64 ((p : Nat) : Int)), (3, .pointer (some ⟨gg3, 0, none⟩)), (6, .pointer (some ⟨gg7, 0, none⟩)), (11, v), (12, .int .i64 ((b.length : Nat) : Int)), (13, .int .i64 ((k : Nat) : Int))] ⟨rfl, rfl, rfl, rfl, rfl, rfl, trivial⟩ (fun _ => ?_)
    refine rp [0] ?_
    refine k0 (wt_none rfl _) rfl (.bool true) (fun _ _ => x_lss_t (.tmp 13) (.tmp 12) _ _ rfl k b.length .i64 (by omega) rfl rfl) ?_
    refine kend ?_
    refine th_n ?_
    refine sq ?_
    refine cdt rfl ?_
    refine sk ?_
    refine th_n ?_
    refine sq ?_
    refine bk ?_
    refine sq ?_
    refine cz [(1, .int .i64 ((p : Nat) : Int)), (3, .pointer (some ⟨gg3, 0, none⟩)), (6, .pointer (some ⟨gg7, 0, none⟩)), (11, v), (12, .int .i64 ((b.length : Nat) : Int)), (13, .int .i64 ((k : Nat) : Int)), (14, .bool true)] ⟨rfl, rfl, rfl, rfl, rfl, rfl, rfl, trivial⟩ (fun _ => ?_)
    refine rp [1, 1, 2, 2] ?_
    refine k1 (wt_none rfl _) rfl (eP v (k * 32)) (x_ep Tryd.sh (.tmp 11) (.tmp 13) rfl (Rc.at hv mm9) k .i64 (k * 32) rfl (by omega) rfl _ rfl rfl) ?_
    refine k1 (wt_none rfl _) rfl (.agg (cellsOf (atH b k)).toArray) (x_lda Tryd.ah (.tmp 15) rfl (Rc.at hv mm9) (k * 32) (by omega) (cellsOf (atH b k)) (by rw [cellsOf_length]; exact H32.at h32 (by omega)) (by decide) (cH_get h32 (by omega)) rfl) ?_
    refine k2 (wt_none rfl _) rfl (x_alc Tryd.ah rfl mm9 (cellsOf (List.replicate 32 0)) rfl) ?_
    rintro _ ww14 ⟨gg16, rfl, mm15⟩
    refine ⟨trivial, ?_⟩
    refine ks (wt_none rfl _) rfl rfl (x_sta (.tmp 8) (.tmp 16) rfl mm15 0 rfl 0 (cellsOf (atH b k)) (cellsOf (atH b k)) (at_size Tryd.ah (by rw [cellsOf_length]; exact H32.at h32 (by omega))) (sta_len (by rfl : (cellsOf (List.replicate 32 0)).length = 32) (by rw [cellsOf_length]; exact H32.at h32 (by omega))) (cellsOf_one _) (sta_all (by rfl : (cellsOf (List.replicate 32 0)).length = 32) (by rw [cellsOf_length]; exact H32.at h32 (by omega))) rfl (.agg (cellsOf (atH b k)).toArray) rfl rfl) ?_
    rintro ww17 mm18
    have mm19 : Mo w ww17 [.arr gg16 24 (cellsOf (atH b k)), .arr gg3 24 (cellsOf (clb lf z.toNat b k)), .arr gg7 24 (cellsOf (List.replicate 32 0))] := mm18
    refine ⟨trivial, ?_⟩
    refine kend ?_
    refine th_n ?_
    refine sq ?_
    refine sq ?_
    by_cases hpar : p % 2 = 0
    · skip
      refine cz [(1, .int .i64 ((p : Nat) : Int)), (3, .pointer (some ⟨gg3, 0, none⟩)), (6, .pointer (some ⟨gg7, 0, none⟩)), (8, .pointer (some ⟨gg16, 0, none⟩)), (11, v), (12, .int .i64 ((b.length : Nat) : Int)), (13, .int .i64 ((k : Nat) : Int)), (14, .bool true)] ⟨rfl, rfl, rfl, rfl, rfl, rfl, rfl, rfl, trivial⟩ (fun _ => ?_)
      refine rp [0, 0, 0] ?_
      refine k0 (wt_none rfl _) rfl (.int .i64 ((p : Nat) : Int)) (fun _ _ => exec_move (.tmp 1) (.inl rfl) _ rfl) ?_
      refine k0 (wt_none rfl _) rfl (.int .i64 ((p % 2 : Nat) : Int)) (fun _ _ => x_rem (.tmp 17) (.const (.int .i64 2)) _ _ rfl p 2 (p % 2) .i64 (by exact ⟨rfl, by omega⟩) rfl rfl) ?_
      refine k0 (wt_none rfl _) rfl (.bool true) (fun _ _ => x_eql_t (.tmp 18) (.const (.int .i64 0)) _ _ rfl (p % 2) 0 .i64 (by omega) rfl rfl) ?_
      refine kend ?_
      refine th_n ?_
      refine cdt rfl ?_
      refine cz [(1, .int .i64 ((p : Nat) : Int)), (3, .pointer (some ⟨gg3, 0, none⟩)), (6, .pointer (some ⟨gg7, 0, none⟩)), (8, .pointer (some ⟨gg16, 0, none⟩)), (11, v), (12, .int .i64 ((b.length : Nat) : Int)), (13, .int .i64 ((k : Nat) : Int)), (14, .bool true), (19, .bool true)] ⟨rfl, rfl, rfl, rfl, rfl, rfl, rfl, rfl, rfl, trivial⟩ (fun _ => ?_)
      refine rp [1, 1, 2, 2] ?_
      refine k1 (wt_none rfl _) rfl (.agg (cellsOf (clb lf z.toNat b k)).toArray) (exec_load_arr Tryd.ah (.tmp 3) rfl gg3 _ (by rw [cellsOf_length]; exact clb_length (len_of hx) _ _ _) rfl (mm19.arr 1 rfl)) ?_
      refine k1 (wt_none rfl _) rfl (.agg (cellsOf (atH b k)).toArray) (exec_load_arr Tryd.ah (.tmp 8) rfl gg16 _ (by rw [cellsOf_length]; exact H32.at h32 (by omega)) rfl (mm19.arr 0 rfl)) ?_
      refine kc (wt_none rfl _) rfl (x_cl2 (v0 := .agg (cellsOf (clb lf z.toNat b k)).toArray) (v1 := .agg (cellsOf (atH b k)).toArray) rfl rfl rfl (by kernel_rfl)) (joined_any (clb lf z.toNat b k) (atH b k) _ (by rw [cellsOf_length]; exact clb_length (len_of hx) _ _ _) (by rw [cellsOf_length]; exact H32.at h32 (by omega)) (ht.gr mm19.below) (Nat.le_trans h2 mm19.size)) ?_
      rintro _ ww20 ⟨rfl, mm21⟩
      have mm22 : Mo w ww20 [.arr gg16 24 (cellsOf (atH b k)), .arr gg3 24 (cellsOf (clb lf z.toNat b k)), .arr gg7 24 (cellsOf (List.replicate 32 0))] := mm19.gr mm21
      refine ⟨_, rfl, trivial, ?_⟩
      refine ks (wt_none rfl _) rfl rfl (x_sta (.tmp 3) (.tmp 22) rfl mm22 1 rfl 0 (cellsOf (pr (clb lf z.toNat b k) (atH b k))) (cellsOf (pr (clb lf z.toNat b k) (atH b k))) (at_size Tryd.ah (pr_len _ _)) (sta_len (by rw [cellsOf_length]; exact clb_length (len_of hx) _ _ _) (pr_len _ _)) (cellsOf_one _) (sta_all (by rw [cellsOf_length]; exact clb_length (len_of hx) _ _ _) (pr_len _ _)) rfl (.agg (cellsOf (pr (clb lf z.toNat b k) (atH b k))).toArray) rfl rfl) ?_
      rintro ww23 mm24
      have mm25 : Mo w ww23 [.arr gg16 24 (cellsOf (atH b k)), .arr gg3 24 (cellsOf (pr (clb lf z.toNat b k) (atH b k))), .arr gg7 24 (cellsOf (List.replicate 32 0))] := mm24
      refine ⟨trivial, ?_⟩
      refine kend ?_
      refine th_n ?_
      refine cz [(1, .int .i64 ((p : Nat) : Int)), (3, .pointer (some ⟨gg3, 0, none⟩)), (6, .pointer (some ⟨gg7, 0, none⟩)), (8, .pointer (some ⟨gg16, 0, none⟩)), (11, v), (12, .int .i64 ((b.length : Nat) : Int)), (13, .int .i64 ((k : Nat) : Int)), (14, .bool true), (19, .bool true)] ⟨rfl, rfl, rfl, rfl, rfl, rfl, rfl, rfl, rfl, trivial⟩ (fun _ => ?_)
      refine rp [0, 0, 0] ?_
      refine k0 (wt_none rfl _) rfl (.int .i64 ((p : Nat) : Int)) (fun _ _ => exec_move (.tmp 1) (.inl rfl) _ rfl) ?_
      refine k0 (wt_none rfl _) rfl (.int .i64 ((p / 2 : Nat) : Int)) (fun _ _ => x_quo (.tmp 26) (.const (.int .i64 2)) _ _ rfl p 2 (p / 2) .i64 (by exact ⟨rfl, by omega, (show _ < 9223372036854775808 by omega)⟩) rfl rfl) ?_
      refine k0 (wt_none rfl _) rfl (.int .i64 ((p / 2 : Nat) : Int)) (fun _ _ => exec_move (.tmp 27) (.inr rfl) _ rfl) ?_
      refine kend ?_
      refine ib_n ?_
      refine th_n ?_
      refine cz [(1, .int .i64 ((p / 2 : Nat) : Int)), (3, .pointer (some ⟨gg3, 0, none⟩)), (6, .pointer (some ⟨gg7, 0, none⟩)), (8, .pointer (some ⟨gg16, 0, none⟩)), (11, v), (12, .int .i64 ((b.length : Nat) : Int)), (13, .int .i64 ((k : Nat) : Int)), (14, .bool true), (19, .bool true)] ⟨rfl, rfl, rfl, rfl, rfl, rfl, rfl, rfl, rfl, trivial⟩ (fun _ => ?_)
      refine rp [0, 0] ?_
      refine k0 (wt_none rfl _) rfl (.int .i64 ((k + 1 : Nat) : Int)) (fun _ _ => x_add (.tmp 13) (.const (.int .i64 1)) _ _ rfl k 1 (k + 1) .i64 (by exact ⟨by omega, (show _ < 9223372036854775808 by omega)⟩) rfl rfl) ?_
      refine k0 (wt_none rfl _) rfl (.int .i64 ((k + 1 : Nat) : Int)) (fun _ _ => exec_move (.tmp 28) (.inl rfl) _ rfl) ?_
      refine kend ?_
      refine th_n ?_
      have mm26 : Mo w ww23 [.arr gg16 24 (cellsOf (atH b k)), .arr gg3 24 (cellsOf (clb lf z.toNat b (k + 1))), .arr gg7 24 (cellsOf (List.replicate 32 0))] := (by have h := mm25; rw [show cellsOf (pr (clb lf z.toNat b k) (atH b k)) = cellsOf (clb lf z.toNat b (k + 1)) from (by rw [clb, if_pos (by rw [← hh12]; exact hpar)])] at h; exact h)
      exact ⟨_, (⟨k + 1, p / 2⟩ : Nat × Nat), rfl, ⟨rfl, rfl, rfl, rfl, rfl, rfl, trivial⟩, ⟨(show (k + 1) ≤ b.length from (by omega)), (show (p / 2) = z.toNat / 2 ^ (k + 1) from (by rw [hh12, Nat.pow_succ, Nat.div_div_eq_div_mul])), (show Mo w ww23 [.arr gg3 24 (cellsOf (clb lf z.toNat b (k + 1))), .arr gg7 24 (cellsOf (List.replicate 32 0))] from mm26.pick [1, 2] (by decide) ⟨rfl, rfl, trivial⟩)⟩, (show b.length - (k + 1) < b.length - k by omega)⟩
    · skip
      refine cz [(1, .int .i64 ((p : Nat) : Int)), (3, .pointer (some ⟨gg3, 0, none⟩)), (6, .pointer (some ⟨gg7, 0, none⟩)), (8, .pointer (some ⟨gg16, 0, none⟩)), (11, v), (12, .int .i64 ((b.length : Nat) : Int)), (13, .int .i64 ((k : Nat) : Int)), (14, .bool true)] ⟨rfl, rfl, rfl, rfl, rfl, rfl, rfl, rfl, trivial⟩ (fun _ => ?_)
      refine rp [0, 0, 0] ?_
      refine k0 (wt_none rfl _) rfl (.int .i64 ((p : Nat) : Int)) (fun _ _ => exec_move (.tmp 1) (.inl rfl) _ rfl) ?_
      refine k0 (wt_none rfl _) rfl (.int .i64 ((p % 2 : Nat) : Int)) (fun _ _ => x_rem (.tmp 17) (.const (.int .i64 2)) _ _ rfl p 2 (p % 2) .i64 (by exact ⟨rfl, by omega⟩) rfl rfl) ?_
      refine k0 (wt_none rfl _) rfl (.bool false) (fun _ _ => x_eql_f (.tmp 18) (.const (.int .i64 0)) _ _ rfl (p % 2) 0 .i64 (by omega) rfl rfl) ?_
      refine kend ?_
      refine th_n ?_
      refine cdf rfl ?_
      refine cz [(1, .int .i64 ((p : Nat) : Int)), (3, .pointer (some ⟨gg3, 0, none⟩)), (6, .pointer (some ⟨gg7, 0, none⟩)), (8, .pointer (some ⟨gg16, 0, none⟩)), (11, v), (12, .int .i64 ((b.length : Nat) : Int)), (13, .int .i64 ((k : Nat) : Int)), (14, .bool true), (19, .bool false)] ⟨rfl, rfl, rfl, rfl, rfl, rfl, rfl, rfl, rfl, trivial⟩ (fun _ => ?_)
      refine rp [1, 1, 2, 2] ?_
      refine k1 (wt_none rfl _) rfl (.agg (cellsOf (atH b k)).toArray) (exec_load_arr Tryd.ah (.tmp 8) rfl gg16 _ (by rw [cellsOf_length]; exact H32.at h32 (by omega)) rfl (mm19.arr 0 rfl)) ?_
      refine k1 (wt_none rfl _) rfl (.agg (cellsOf (clb lf z.toNat b k)).toArray) (exec_load_arr Tryd.ah (.tmp 3) rfl gg3 _ (by rw [cellsOf_length]; exact clb_length (len_of hx) _ _ _) rfl (mm19.arr 1 rfl)) ?_
      refine kc (wt_none rfl _) rfl (x_cl2 (v0 := .agg (cellsOf (atH b k)).toArray) (v1 := .agg (cellsOf (clb lf z.toNat b k)).toArray) rfl rfl rfl (by kernel_rfl)) (joined_any (atH b k) (clb lf z.toNat b k) _ (by rw [cellsOf_length]; exact H32.at h32 (by omega)) (by rw [cellsOf_length]; exact clb_length (len_of hx) _ _ _) (ht.gr mm19.below) (Nat.le_trans h2 mm19.size)) ?_
      rintro _ ww27 ⟨rfl, mm28⟩
      have mm29 : Mo w ww27 [.arr gg16 24 (cellsOf (atH b k)), .arr gg3 24 (cellsOf (clb lf z.toNat b k)), .arr gg7 24 (cellsOf (List.replicate 32 0))] := mm19.gr mm28
      refine ⟨_, rfl, trivial, ?_⟩
      refine ks (wt_none rfl _) rfl rfl (x_sta (.tmp 3) (.tmp 25) rfl mm29 1 rfl 0 (cellsOf (pr (atH b k) (clb lf z.toNat b k))) (cellsOf (pr (atH b k) (clb lf z.toNat b k))) (at_size Tryd.ah (pr_len _ _)) (sta_len (by rw [cellsOf_length]; exact clb_length (len_of hx) _ _ _) (pr_len _ _)) (cellsOf_one _) (sta_all (by rw [cellsOf_length]; exact clb_length (len_of hx) _ _ _) (pr_len _ _)) rfl (.agg (cellsOf (pr (atH b k) (clb lf z.toNat b k))).toArray) rfl rfl) ?_
      rintro ww30 mm31
      have mm32 : Mo w ww30 [.arr gg16 24 (cellsOf (atH b k)), .arr gg3 24 (cellsOf (pr (atH b k) (clb lf z.toNat b k))), .arr gg7 24 (cellsOf (List.replicate 32 0))] := mm31
      refine ⟨trivial, ?_⟩
      refine kend ?_
      refine th_n ?_
      refine cz [(1, .int .i64 ((p : Nat) : Int)), (3, .pointer (some ⟨gg3, 0, none⟩)), (6, .pointer (some ⟨gg7, 0, none⟩)), (8, .pointer (some ⟨gg16, 0, none⟩)), (11, v), (12, .int .i64 ((b.length : Nat) : Int)), (13, .int .i64 ((k : Nat) : Int)), (14, .bool true), (19, .bool false)] ⟨rfl, rfl, rfl, rfl, rfl, rfl, rfl, rfl, rfl, trivial⟩ (fun _ => ?_)
      refine rp [0, 0, 0] ?_
      refine k0 (wt_none rfl _) rfl (.int .i64 ((p : Nat) : Int)) (fun _ _ => exec_move (.tmp 1) (.inl rfl) _ rfl) ?_
      refine k0 (wt_none rfl _) rfl (.int .i64 ((p / 2 : Nat) : Int)) (fun _ _ => x_quo (.tmp 26) (.const (.int .i64 2)) _ _ rfl p 2 (p / 2) .i64 (by exact ⟨rfl, by omega, (show _ < 9223372036854775808 by omega)⟩) rfl rfl) ?_
      refine k0 (wt_none rfl _) rfl (.int .i64 ((p / 2 : Nat) : Int)) (fun _ _ => exec_move (.tmp 27) (.inr rfl) _ rfl) ?_
      refine kend ?_
      refine ib_n ?_
      refine th_n ?_
      refine cz [(1, .int .i64 ((p / 2 : Nat) : Int)), (3, .pointer (some ⟨gg3, 0, none⟩)), (6, .pointer (some ⟨gg7, 0, none⟩)), (8, .pointer (some ⟨gg16, 0, none⟩)), (11, v), (12, .int .i64 ((b.length : Nat) : Int)), (13, .int .i64 ((k : Nat) : Int)), (14, .bool true), (19, .bool false)] ⟨rfl, rfl, rfl, rfl, rfl, rfl, rfl, rfl, rfl, trivial⟩ (fun _ => ?_)
      refine rp [0, 0] ?_
      refine k0 (wt_none rfl _) rfl (.int .i64 ((k + 1 : Nat) : Int)) (fun _ _ => x_add (.tmp 13) (.const (.int .i64 1)) _ _ rfl k 1 (k + 1) .i64 (by exact ⟨by omega, (show _ < 9223372036854775808 by omega)⟩) rfl rfl) ?_
      refine k0 (wt_none rfl _) rfl (.int .i64 ((k + 1 : Nat) : Int)) (fun _ _ => exec_move (.tmp 28) (.inl rfl) _ rfl) ?_
      refine kend ?_
      refine th_n ?_
      have mm33 : Mo w ww30 [.arr gg16 24 (cellsOf (atH b k)), .arr gg3 24 (cellsOf (clb lf z.toNat b (k + 1))), .arr gg7 24 (cellsOf (List.replicate 32 0))] := (by have h := mm32; rw [show cellsOf (pr (atH b k) (clb lf z.toNat b k)) = cellsOf (clb lf z.toNat b (k + 1)) from (by rw [clb, if_neg (by rw [← hh12]; exact hpar)])] at h; exact h)
      exact ⟨_, (⟨k + 1, p / 2⟩ : Nat × Nat), rfl, ⟨rfl, rfl, rfl, rfl, rfl, rfl, trivial⟩, ⟨(show (k + 1) ≤ b.length from (by omega)), (show (p / 2) = z.toNat / 2 ^ (k + 1) from (by rw [hh12, Nat.pow_succ, Nat.div_div_eq_div_mul])), (show Mo w ww30 [.arr gg3 24 (cellsOf (clb lf z.toNat b (k + 1))), .arr gg7 24 (cellsOf (List.replicate 32 0))] from mm33.pick [1, 2] (by decide) ⟨rfl, rfl, trivial⟩)⟩, (show b.length - (k + 1) < b.length - k by omega)⟩
  · -- behind the loop
    obtain rfl : k = b.length := by omega
    refine sq ?_
    refine cz [(1, .int .i64 ((p : Nat) : Int)), (3, .pointer (some ⟨gg3, 0, none⟩)), (6, .pointer (some ⟨gg7, 0, none⟩)), (11, v), (12, .int .i64 ((b.length : Nat) : Int)), (13, .int .i64 ((b.length : Nat) : Int))] ⟨rfl, rfl, rfl, rfl, rfl, rfl, trivial⟩ (fun _ => ?_)
    refine rp [0] ?_
    refine k0 (wt_none rfl _) rfl (.bool false) (fun _ _ => x_lss_f (.tmp 13) (.tmp 12) _ _ rfl b.length b.length .i64 (by omega) rfl rfl) ?_
    refine kend ?_
    refine th_n ?_
    refine sq ?_
    refine cdf rfl ?_
    refine ex ?_
    refine th_x ?_
    refine th_x ?_
    refine ib_x ?_
    refine th_n ?_
    refine sq ?_
    refine cz [(1, .int .i64 ((p : Nat) : Int)), (3, .pointer (some ⟨gg3, 0, none⟩)), (6, .pointer (some ⟨gg7, 0, none⟩)), (11, v), (12, .int .i64 ((b.length : Nat) : Int)), (13, .int .i64 ((b.length : Nat) : Int)), (14, .bool false)] ⟨rfl, rfl, rfl, rfl, rfl, rfl, rfl, trivial⟩ (fun _ => ?_)
    refine rp [1, 2] ?_
    refine k1 (wt_none rfl _) rfl (.agg (cellsOf (clb lf z.toNat b b.length)).toArray) (exec_load_arr Tryd.ah (.tmp 3) rfl gg3 _ (by rw [cellsOf_length]; exact clb_length (len_of hx) _ _ _) rfl (mm9.arr 0 rfl)) ?_
    refine ks (wt_none rfl _) rfl rfl (x_sta (.tmp 6) (.tmp 29) rfl mm9 1 rfl 0 (cellsOf (clb lf z.toNat b b.length)) (cellsOf (clb lf z.toNat b b.length)) (at_size Tryd.ah (by rw [cellsOf_length]; exact clb_length (len_of hx) _ _ _)) (sta_len (by rfl : (cellsOf (List.replicate 32 0)).length = 32) (by rw [cellsOf_length]; exact clb_length (len_of hx) _ _ _)) (cellsOf_one _) (sta_all (by rfl : (cellsOf (List.replicate 32 0)).length = 32) (by rw [cellsOf_length]; exact clb_length (len_of hx) _ _ _)) rfl (.agg (cellsOf (clb lf z.toNat b b.length)).toArray) rfl rfl) ?_
    rintro ww34 mm35
    have mm36 : Mo w ww34 [.arr gg3 24 (cellsOf (clb lf z.toNat b b.length)), .arr gg7 24 (cellsOf (clb lf z.toNat b b.length))] := mm35
    refine ⟨trivial, ?_⟩
    refine kend ?_
    refine th_n ?_
    refine re ?_
    refine rta Tryd.ah rfl (by rw [cellsOf_length]; exact clb_length (len_of hx) _ _ _) (mm36.arr 1 rfl) rfl ?_
    exact ⟨rfl, mm36.below⟩

set_option maxHeartbeats 1000000 in
theorem climb_doc (lf : List UInt8) (i : Nat) (v : Value) (b : List (List UInt8)) (w : World) (hx : (cellsOf lf).length = 32) (h32 : H32 b) (hv : Rc w.heap.size w v b.length (cH b)) (hn : b.length ≤ 1000000) (hz : i < 9223372036854775808) :
    Calls Tryd.prog 16 #[.agg (cellsOf lf).toArray, .int .i64 ((i : Nat) : Int), v] w fun e w' => e = .returned (.agg (cellsOf (clb lf i b b.length)).toArray) ∧ Below w.heap.size w w' := by
  have m0 := Mo.start w
  refine enter [.agg (cellsOf lf).toArray, .int .i64 ((i : Nat) : Int), v] 34 Tryd.func16 rfl Tryd.ntmps16 (Nat.le_of_ble_eq_true rfl) ?_
  refine sq ?_
  refine cz [(0, .agg (cellsOf lf).toArray), (1, .int .i64 ((i : Nat) : Int)), (2, v)] ⟨rfl, rfl, rfl, trivial⟩ (fun _ => ?_)
  refine rp [2, 2] ?_
  refine k2 (wt_none rfl _) rfl (x_box 24 (.tmp 0) rfl m0 (cellsOf lf) rfl) ?_
  rintro _ ww1 ⟨gg3, rfl, mm2⟩
  refine ⟨trivial, ?_⟩
  refine k2 (wt_none rfl _) rfl (x_alc Tryd.ah rfl mm2 (cellsOf (List.replicate 32 0)) rfl) ?_
  rintro _ ww5 ⟨gg7, rfl, mm6⟩
  refine ⟨trivial, ?_⟩
  refine kend ?_
  refine th_n ?_
  refine sq ?_
  refine sq ?_
  refine cz [(0, .agg (cellsOf lf).toArray), (1, .int .i64 ((i : Nat) : Int)), (2, v), (3, .pointer (some ⟨gg3, 0, none⟩)), (6, .pointer (some ⟨gg7, 0, none⟩))] ⟨rfl, rfl, rfl, rfl, rfl, trivial⟩ (fun _ => ?_)
  refine rp [0, 0] ?_
  refine k0 (wt_none rfl _) rfl (.int .i64 ((i : Nat) : Int)) (fun _ _ => exec_move (.tmp 1) (.inl rfl) _ rfl) ?_
  refine k0 (wt_none rfl _) rfl (.bool false) (fun _ _ => x_lss_f (.tmp 8) (.const (.int .i64 0)) _ _ rfl i 0 .i64 (by omega) rfl rfl) ?_
  refine kend ?_
  refine th_n ?_
  refine cdf rfl ?_
  refine sk ?_
  refine th_n ?_
  refine sq ?_
  refine sq ?_
  refine cz [(0, .agg (cellsOf lf).toArray), (1, .int .i64 ((i : Nat) : Int)), (2, v), (3, .pointer (some ⟨gg3, 0, none⟩)), (6, .pointer (some ⟨gg7, 0, none⟩)), (9, .bool false)] ⟨rfl, rfl, rfl, rfl, rfl, rfl, trivial⟩ (fun _ => ?_)
  refine rp [0] ?_
  refine k0 (wt_none rfl _) rfl (.int .i64 0) (fun _ _ => exec_move (.const (.int .i64 0)) (.inr rfl) _ rfl) ?_
  refine kend ?_
  refine th_n ?_
  refine bk ?_
  have mm8 : Mo w ww5 [.arr gg7 24 (cellsOf (List.replicate 32 0)), .arr gg3 24 (cellsOf (clb lf i b 0))] := (by have h := mm6; rw [show cellsOf lf = cellsOf (clb lf i b 0) from (by rfl)] at h; exact h)
  refine lp (fun (xs : Nat × Nat) => [(1, .int .i64 ((xs.2 : Nat) : Int)), (2, v), (3, .pointer (some ⟨gg3, 0, none⟩)), (6, .pointer (some ⟨gg7, 0, none⟩)), (7, .int .i64 ((xs.1 : Nat) : Int))]) (fun (xs : Nat × Nat) w1 => (xs.1 ≤ b.length) ∧ (xs.2 = i / 2 ^ xs.1) ∧ Mo w w1 [.arr gg3 24 (cellsOf (clb lf i b xs.1)), .arr gg7 24 (cellsOf (List.replicate 32 0))]) (fun (xs : Nat × Nat) => b.length - xs.1) (⟨0, i⟩) ⟨rfl, rfl, rfl, rfl, rfl, trivial⟩ ⟨(show 0 ≤ b.length from (Nat.zero_le _)), (show i = i / 2 ^ 0 from (by simp)), (show Mo w ww5 [.arr gg3 24 (cellsOf (clb lf i b 0)), .arr gg7 24 (cellsOf (List.replicate 32 0))] from mm8.pick [1, 0] (by decide) ⟨rfl, rfl, trivial⟩)⟩ ?_
  rintro ⟨k, p⟩ _ ww10 ⟨hh11, hh12, mm9⟩
  replace hh11 : k ≤ b.length := hh11
  replace hh12 : p = i / 2 ^ k := hh12
  replace mm9 : Mo w ww10 [.arr gg3 24 (cellsOf (clb lf i b k)), .arr gg7 24 (cellsOf (List.replicate 32 0))] := mm9
  refine cz [(1, .int .i64 ((p : Nat) : Int)), (2, v), (3, .pointer (some ⟨gg3, 0, none⟩)), (6, .pointer (some ⟨gg7, 0, none⟩)), (7, .int .i64 ((k : Nat) : Int))] ⟨rfl, rfl, rfl, rfl, rfl, trivial⟩ (fun _ => ?_)
  have hp9 : p ≤ i := by rw [hh12]; exact Nat.div_le_self _ _
  by_cases hlt : k < b.length
  · -- round
    refine sq ?_
    refine sq ?_
    refine cz [(1, .int .i64 ((p : Nat) : Int)), (2, v), (3, .pointer (some ⟨gg3, 0, none⟩)), (6, .pointer (some ⟨gg7, 0, none⟩)), (7, .int .i64 ((k : Nat) : Int))] ⟨rfl, rfl, rfl, rfl, rfl, trivial⟩ (fun _ => ?_)
    refine rp [0, 0, 1, 0] ?_
    refine k0 (wt_none rfl _) rfl (.int .i64 ((k : Nat) : Int)) (fun _ _ => exec_move (.tmp 7) (.inl rfl) _ rfl) ?_
    refine k0 (wt_none rfl _) rfl (v) (fun _ _ => exec_move (.tmp 2) (.inl rfl) _ rfl) ?_
    refine k1 (wt_none rfl _) rfl (.int .i64 ((b.length : Nat) : Int)) (x_len Tryd.sh.sl (.tmp 11) rfl (Rc.at hv mm9) rfl) ?_
    refine k0 (wt_none rfl _) rfl (.bool true) (fun _ _ => x_lss_t (.tmp 10) (.tmp 12) _ _ rfl k b.length .i64 (by omega) rfl rfl) ?_
    refine kend ?_
    refine th_n ?_
    refine cdt rfl ?_
    refine sk ?_
    refine th_n ?_
    refine sq ?_
    refine bk ?_
    refine sq ?_
    refine sq ?_
    by_cases hpar : p % 2 = 0
    · skip
      refine cz [(1, .int .i64 ((p : Nat) : Int)), (2, v), (3, .pointer (some ⟨gg3, 0, none⟩)), (6, .pointer (some ⟨gg7, 0, none⟩)), (7, .int .i64 ((k : Nat) : Int)), (13, .bool true)] ⟨rfl, rfl, rfl, rfl, rfl, rfl, trivial⟩ (fun _ => ?_)
      refine rp [0, 0, 0] ?_
      refine k0 (wt_none rfl _) rfl (.int .i64 ((p : Nat) : Int)) (fun _ _ => exec_move (.tmp 1) (.inl rfl) _ rfl) ?_
      refine k0 (wt_none rfl _) rfl (.int .i64 ((p % 2 : Nat) : Int)) (fun _ _ => x_rem (.tmp 16) (.const (.int .i64 2)) _ _ rfl p 2 (p % 2) .i64 (by exact ⟨rfl, by omega⟩) rfl rfl) ?_
      refine k0 (wt_none rfl _) rfl (.bool true) (fun _ _ => x_eql_t (.tmp 17) (.const (.int .i64 0)) _ _ rfl (p % 2) 0 .i64 (by omega) rfl rfl) ?_
      refine kend ?_
      refine th_n ?_
      refine cdt rfl ?_
      refine cz [(1, .int .i64 ((p : Nat) : Int)), (2, v), (3, .pointer (some ⟨gg3, 0, none⟩)), (6, .pointer (some ⟨gg7, 0, none⟩)), (7, .int .i64 ((k : Nat) : Int)), (13, .bool true), (18, .bool true)] ⟨rfl, rfl, rfl, rfl, rfl, rfl, rfl, trivial⟩ (fun _ => ?_)
      have mm14 := mm9.drew
      refine rq (fun w1 => Mo w w1 [.arr gg7 24 (cellsOf (List.replicate 32 0))]) [1, 0, 0, 0, 0, 2, 2] (by kernel_rfl) (by kernel_rfl) (by kernel_rfl) (mm14.sub (List.Sublist.cons _ (List.Sublist.cons_cons _ List.Sublist.slnil))) ?_
      refine k1 (wt_none rfl _) rfl (.agg (cellsOf (clb lf i b k)).toArray) (exec_load_arr Tryd.ah (.tmp 3) rfl gg3 _ (by rw [cellsOf_length]; exact clb_length (len_of hx) _ _ _) rfl (mm14.arr 0 rfl)) ?_
      refine k0 (wt_none rfl _) rfl (v) (fun _ _ => exec_move (.tmp 2) (.inl rfl) _ rfl) ?_
      refine k0 (wt_none rfl _) rfl (.int .i64 ((k : Nat) : Int)) (fun _ _ => exec_move (.tmp 7) (.inl rfl) _ rfl) ?_
      refine k0 (wt_none rfl _) rfl (eP v (k * 32)) (fun _ hC => x_ep Tryd.sh (.tmp 20) (.tmp 21) rfl (Rc.at hv hC) k .i64 (k * 32) rfl (by omega) rfl _ rfl rfl) ?_
      refine k0 (wt_none rfl _) rfl (.agg (cellsOf (atH b k)).toArray) (fun _ hC => x_lda Tryd.ah (.tmp 22) rfl (Rc.at hv hC) (k * 32) (by omega) (cellsOf (atH b k)) (by rw [cellsOf_length]; exact H32.at h32 (by omega)) (by decide) (cH_get h32 (by omega)) rfl) ?_
      refine kc (wt_none rfl _) rfl (x_cl2 (v0 := .agg (cellsOf (clb lf i b k)).toArray) (v1 := .agg (cellsOf (atH b k)).toArray) rfl rfl rfl (by kernel_rfl)) (pair_doc (clb lf i b k) (atH b k) _ (by rw [cellsOf_length]; exact clb_length (len_of hx) _ _ _) (by rw [cellsOf_length]; exact H32.at h32 (by omega))) ?_
      rintro _ ww15 ⟨rfl, mm16⟩
      have mm17 : Mo w ww15 [.arr gg3 24 (cellsOf (clb lf i b k)), .arr gg7 24 (cellsOf (List.replicate 32 0))] := mm14.gr mm16
      refine ⟨_, rfl, (mm17.sub (List.Sublist.cons _ (List.Sublist.cons_cons _ List.Sublist.slnil))), ?_⟩
      refine ks (wt_none rfl _) rfl rfl (x_sta (.tmp 3) (.tmp 24) rfl mm17 0 rfl 0 (cellsOf (pr (clb lf i b k) (atH b k))) (cellsOf (pr (clb lf i b k) (atH b k))) (at_size Tryd.ah (pr_len _ _)) (sta_len (by rw [cellsOf_length]; exact clb_length (len_of hx) _ _ _) (pr_len _ _)) (cellsOf_one _) (sta_all (by rw [cellsOf_length]; exact clb_length (len_of hx) _ _ _) (pr_len _ _)) rfl (.agg (cellsOf (pr (clb lf i b k) (atH b k))).toArray) rfl rfl) ?_
      rintro ww18 mm19
      have mm20 : Mo w ww18 [.arr gg3 24 (cellsOf (pr (clb lf i b k) (atH b k))), .arr gg7 24 (cellsOf (List.replicate 32 0))] := mm19
      refine ⟨(mm20.sub (List.Sublist.cons _ (List.Sublist.cons_cons _ List.Sublist.slnil))), ?_⟩
      refine kend ?_
      refine th_n ?_
      refine cz [(1, .int .i64 ((p : Nat) : Int)), (2, v), (3, .pointer (some ⟨gg3, 0, none⟩)), (6, .pointer (some ⟨gg7, 0, none⟩)), (7, .int .i64 ((k : Nat) : Int)), (13, .bool true), (18, .bool true)] ⟨rfl, rfl, rfl, rfl, rfl, rfl, rfl, trivial⟩ (fun _ => ?_)
      refine rp [0, 0, 0] ?_
      refine k0 (wt_none rfl _) rfl (.int .i64 ((p : Nat) : Int)) (fun _ _ => exec_move (.tmp 1) (.inl rfl) _ rfl) ?_
      refine k0 (wt_none rfl _) rfl (.int .i64 ((p / 2 : Nat) : Int)) (fun _ _ => x_quo (.tmp 31) (.const (.int .i64 2)) _ _ rfl p 2 (p / 2) .i64 (by exact ⟨rfl, by omega, (show _ < 9223372036854775808 by omega)⟩) rfl rfl) ?_
      refine k0 (wt_none rfl _) rfl (.int .i64 ((p / 2 : Nat) : Int)) (fun _ _ => exec_move (.tmp 32) (.inr rfl) _ rfl) ?_
      refine kend ?_
      refine ib_n ?_
      refine th_n ?_
      refine cz [(1, .int .i64 ((p / 2 : Nat) : Int)), (2, v), (3, .pointer (some ⟨gg3, 0, none⟩)), (6, .pointer (some ⟨gg7, 0, none⟩)), (7, .int .i64 ((k : Nat) : Int)), (13, .bool true), (18, .bool true)] ⟨rfl, rfl, rfl, rfl, rfl, rfl, rfl, trivial⟩ (fun _ => ?_)
      refine rp [0, 0, 0] ?_
      refine k0 (wt_none rfl _) rfl (.int .i64 ((k : Nat) : Int)) (fun _ _ => exec_move (.tmp 7) (.inl rfl) _ rfl) ?_
      refine k0 (wt_none rfl _) rfl (.int .i64 ((k + 1 : Nat) : Int)) (fun _ _ => x_add (.tmp 14) (.const (.int .i64 1)) _ _ rfl k 1 (k + 1) .i64 (by exact ⟨by omega, (show _ < 9223372036854775808 by omega)⟩) rfl rfl) ?_
      refine k0 (wt_none rfl _) rfl (.int .i64 ((k + 1 : Nat) : Int)) (fun _ _ => exec_move (.tmp 15) (.inr rfl) _ rfl) ?_
      refine kend ?_
      refine th_n ?_
      have mm21 : Mo w ww18 [.arr gg3 24 (cellsOf (clb lf i b (k + 1))), .arr gg7 24 (cellsOf (List.replicate 32 0))] := (by have h := mm20; rw [show cellsOf (pr (clb lf i b k) (atH b k)) = cellsOf (clb lf i b (k + 1)) from (by rw [clb, if_pos (by rw [← hh12]; exact hpar)])] at h; exact h)
      exact ⟨_, (⟨k + 1, p / 2⟩ : Nat × Nat), rfl, ⟨rfl, rfl, rfl, rfl, rfl, trivial⟩, ⟨(show (k + 1) ≤ b.length from (by omega)), (show (p / 2) = i / 2 ^ (k + 1) from (by rw [hh12, Nat.pow_succ, Nat.div_div_eq_div_mul])), (show Mo w ww18 [.arr gg3 24 (cellsOf (clb lf i b (k + 1))), .arr gg7 24 (cellsOf (List.replicate 32 0))] from mm21)⟩, (show b.length - (k + 1) < b.length - k by omega)⟩
    · skip
      refine cz [(1, .int .i64 ((p : Nat) : Int)), (2, v), (3, .pointer (some ⟨gg3, 0, none⟩)), (6, .pointer (some ⟨gg7, 0, none⟩)), (7, .int .i64 ((k : Nat) : Int)), (13, .bool true)] ⟨rfl, rfl, rfl, rfl, rfl, rfl, trivial⟩ (fun _ => ?_)
      refine rp [0, 0, 0] ?_
      refine k0 (wt_none rfl _) rfl (.int .i64 ((p : Nat) : Int)) (fun _ _ => exec_move (.tmp 1) (.inl rfl) _ rfl) ?_
      refine k0 (wt_none rfl _) rfl (.int .i64 ((p % 2 : Nat) : Int)) (fun _ _ => x_rem (.tmp 16) (.const (.int .i64 2)) _ _ rfl p 2 (p % 2) .i64 (by exact ⟨rfl, by omega⟩) rfl rfl) ?_
      refine k0 (wt_none rfl _) rfl (.bool false) (fun _ _ => x_eql_f (.tmp 17) (.const (.int .i64 0)) _ _ rfl (p % 2) 0 .i64 (by omega) rfl rfl) ?_
      refine kend ?_
      refine th_n ?_
      refine cdf rfl ?_
      refine cz [(1, .int .i64 ((p : Nat) : Int)), (2, v), (3, .pointer (some ⟨gg3, 0, none⟩)), (6, .pointer (some ⟨gg7, 0, none⟩)), (7, .int .i64 ((k : Nat) : Int)), (13, .bool true), (18, .bool false)] ⟨rfl, rfl, rfl, rfl, rfl, rfl, rfl, trivial⟩ (fun _ => ?_)
      have mm23 := mm9.drew
      refine rq (fun w1 => Mo w w1 [.arr gg7 24 (cellsOf (List.replicate 32 0))]) [0, 0, 0, 0, 1, 2, 2] (by kernel_rfl) (by kernel_rfl) (by kernel_rfl) (mm23.sub (List.Sublist.cons _ (List.Sublist.cons_cons _ List.Sublist.slnil))) ?_
      refine k0 (wt_none rfl _) rfl (v) (fun _ _ => exec_move (.tmp 2) (.inl rfl) _ rfl) ?_
      refine k0 (wt_none rfl _) rfl (.int .i64 ((k : Nat) : Int)) (fun _ _ => exec_move (.tmp 7) (.inl rfl) _ rfl) ?_
      refine k0 (wt_none rfl _) rfl (eP v (k * 32)) (fun _ hC => x_ep Tryd.sh (.tmp 25) (.tmp 26) rfl (Rc.at hv hC) k .i64 (k * 32) rfl (by omega) rfl _ rfl rfl) ?_
      refine k0 (wt_none rfl _) rfl (.agg (cellsOf (atH b k)).toArray) (fun _ hC => x_lda Tryd.ah (.tmp 27) rfl (Rc.at hv hC) (k * 32) (by omega) (cellsOf (atH b k)) (by rw [cellsOf_length]; exact H32.at h32 (by omega)) (by decide) (cH_get h32 (by omega)) rfl) ?_
      refine k1 (wt_none rfl _) rfl (.agg (cellsOf (clb lf i b k)).toArray) (exec_load_arr Tryd.ah (.tmp 3) rfl gg3 _ (by rw [cellsOf_length]; exact clb_length (len_of hx) _ _ _) rfl (mm23.arr 0 rfl)) ?_
      refine kc (wt_none rfl _) rfl (x_cl2 (v0 := .agg (cellsOf (atH b k)).toArray) (v1 := .agg (cellsOf (clb lf i b k)).toArray) rfl rfl rfl (by kernel_rfl)) (pair_doc (atH b k) (clb lf i b k) _ (by rw [cellsOf_length]; exact H32.at h32 (by omega)) (by rw [cellsOf_length]; exact clb_length (len_of hx) _ _ _)) ?_
      rintro _ ww24 ⟨rfl, mm25⟩
      have mm26 : Mo w ww24 [.arr gg3 24 (cellsOf (clb lf i b k)), .arr gg7 24 (cellsOf (List.replicate 32 0))] := mm23.gr mm25
      refine ⟨_, rfl, (mm26.sub (List.Sublist.cons _ (List.Sublist.cons_cons _ List.Sublist.slnil))), ?_⟩
      refine ks (wt_none rfl _) rfl rfl (x_sta (.tmp 3) (.tmp 30) rfl mm26 0 rfl 0 (cellsOf (pr (atH b k) (clb lf i b k))) (cellsOf (pr (atH b k) (clb lf i b k))) (at_size Tryd.ah (pr_len _ _)) (sta_len (by rw [cellsOf_length]; exact clb_length (len_of hx) _ _ _) (pr_len _ _)) (cellsOf_one _) (sta_all (by rw [cellsOf_length]; exact clb_length (len_of hx) _ _ _) (pr_len _ _)) rfl (.agg (cellsOf (pr (atH b k) (clb lf i b k))).toArray) rfl rfl) ?_
      rintro ww27 mm28
      have mm29 : Mo w ww27 [.arr gg3 24 (cellsOf (pr (atH b k) (clb lf i b k))), .arr gg7 24 (cellsOf (List.replicate 32 0))] := mm28
      refine ⟨(mm29.sub (List.Sublist.cons _ (List.Sublist.cons_cons _ List.Sublist.slnil))), ?_⟩
      refine kend ?_
      refine th_n ?_
      refine cz [(1, .int .i64 ((p : Nat) : Int)), (2, v), (3, .pointer (some ⟨gg3, 0, none⟩)), (6, .pointer (some ⟨gg7, 0, none⟩)), (7, .int .i64 ((k : Nat) : Int)), (13, .bool true), (18, .bool false)] ⟨rfl, rfl, rfl, rfl, rfl, rfl, rfl, trivial⟩ (fun _ => ?_)
      refine rp [0, 0, 0] ?_
      refine k0 (wt_none rfl _) rfl (.int .i64 ((p : Nat) : Int)) (fun _ _ => exec_move (.tmp 1) (.inl rfl) _ rfl) ?_
      refine k0 (wt_none rfl _) rfl (.int .i64 ((p / 2 : Nat) : Int)) (fun _ _ => x_quo (.tmp 31) (.const (.int .i64 2)) _ _ rfl p 2 (p / 2) .i64 (by exact ⟨rfl, by omega, (show _ < 9223372036854775808 by omega)⟩) rfl rfl) ?_
      refine k0 (wt_none rfl _) rfl (.int .i64 ((p / 2 : Nat) : Int)) (fun _ _ => exec_move (.tmp 32) (.inr rfl) _ rfl) ?_
      refine kend ?_
      refine ib_n ?_
      refine th_n ?_
      refine cz [(1, .int .i64 ((p / 2 : Nat) : Int)), (2, v), (3, .pointer (some ⟨gg3, 0, none⟩)), (6, .pointer (some ⟨gg7, 0, none⟩)), (7, .int .i64 ((k : Nat) : Int)), (13, .bool true), (18, .bool false)] ⟨rfl, rfl, rfl, rfl, rfl, rfl, rfl, trivial⟩ (fun _ => ?_)
      refine rp [0, 0, 0] ?_
      refine k0 (wt_none rfl _) rfl (.int .i64 ((k : Nat) : Int)) (fun _ _ => exec_move (.tmp 7) (.inl rfl) _ rfl) ?_
      refine k0 (wt_none rfl _) rfl (.int .i64 ((k + 1 : Nat) : Int)) (fun _ _ => x_add (.tmp 14) (.const (.int .i64 1)) _ _ rfl k 1 (k + 1) .i64 (by exact ⟨by omega, (show _ < 9223372036854775808 by omega)⟩) rfl rfl) ?_
      refine k0 (wt_none rfl _) rfl (.int .i64 ((k + 1 : Nat) : Int)) (fun _ _ => exec_move (.tmp 15) (.inr rfl) _ rfl) ?_
      refine kend ?_
      refine th_n ?_
      have mm30 : Mo w ww27 [.arr gg3 24 (cellsOf (clb lf i b (k + 1))), .arr gg7 24 (cellsOf (List.replicate 32 0))] := (by have h := mm29; rw [show cellsOf (pr (atH b k) (clb lf i b k)) = cellsOf (clb lf i b (k + 1)) from (by rw [clb, if_neg (by rw [← hh12]; exact hpar)])] at h; exact h)
      exact ⟨_, (⟨k + 1, p / 2⟩ : Nat × Nat), rfl, ⟨rfl, rfl, rfl, rfl, rfl, trivial⟩, ⟨(show (k + 1) ≤ b.length from (by omega)), (show (p / 2) = i / 2 ^ (k + 1) from (by rw [hh12, Nat.pow_succ, Nat.div_div_eq_div_mul])), (show Mo w ww27 [.arr gg3 24 (cellsOf (clb lf i b (k + 1))), .arr gg7 24 (cellsOf (List.replicate 32 0))] from mm30)⟩, (show b.length - (k + 1) < b.length - k by omega)⟩
  · -- behind the loop
    obtain rfl : k = b.length := by omega
    refine sq ?_
    refine sq ?_
    refine cz [(1, .int .i64 ((p : Nat) : Int)), (2, v), (3, .pointer (some ⟨gg3, 0, none⟩)), (6, .pointer (some ⟨gg7, 0, none⟩)), (7, .int .i64 ((b.length : Nat) : Int))] ⟨rfl, rfl, rfl, rfl, rfl, trivial⟩ (fun _ => ?_)
    refine rp [0, 0, 1, 0] ?_
    refine k0 (wt_none rfl _) rfl (.int .i64 ((b.length : Nat) : Int)) (fun _ _ => exec_move (.tmp 7) (.inl rfl) _ rfl) ?_
    refine k0 (wt_none rfl _) rfl (v) (fun _ _ => exec_move (.tmp 2) (.inl rfl) _ rfl) ?_
    refine k1 (wt_none rfl _) rfl (.int .i64 ((b.length : Nat) : Int)) (x_len Tryd.sh.sl (.tmp 11) rfl (Rc.at hv mm9) rfl) ?_
    refine k0 (wt_none rfl _) rfl (.bool false) (fun _ _ => x_lss_f (.tmp 10) (.tmp 12) _ _ rfl b.length b.length .i64 (by omega) rfl rfl) ?_
    refine kend ?_
    refine th_n ?_
    refine cdf rfl ?_
    refine ex ?_
    refine th_x ?_
    refine th_x ?_
    refine ib_x ?_
    refine th_n ?_
    refine sq ?_
    refine cz [(1, .int .i64 ((p : Nat) : Int)), (2, v), (3, .pointer (some ⟨gg3, 0, none⟩)), (6, .pointer (some ⟨gg7, 0, none⟩)), (7, .int .i64 ((b.length : Nat) : Int)), (13, .bool false)] ⟨rfl, rfl, rfl, rfl, rfl, rfl, trivial⟩ (fun _ => ?_)
    refine rp [1, 2] ?_
    refine k1 (wt_none rfl _) rfl (.agg (cellsOf (clb lf i b b.length)).toArray) (exec_load_arr Tryd.ah (.tmp 3) rfl gg3 _ (by rw [cellsOf_length]; exact clb_length (len_of hx) _ _ _) rfl (mm9.arr 0 rfl)) ?_
    refine ks (wt_none rfl _) rfl rfl (x_sta (.tmp 6) (.tmp 33) rfl mm9 1 rfl 0 (cellsOf (clb lf i b b.length)) (cellsOf (clb lf i b b.length)) (at_size Tryd.ah (by rw [cellsOf_length]; exact clb_length (len_of hx) _ _ _)) (sta_len (by rfl : (cellsOf (List.replicate 32 0)).length = 32) (by rw [cellsOf_length]; exact clb_length (len_of hx) _ _ _)) (cellsOf_one _) (sta_all (by rfl : (cellsOf (List.replicate 32 0)).length = 32) (by rw [cellsOf_length]; exact clb_length (len_of hx) _ _ _)) rfl (.agg (cellsOf (clb lf i b b.length)).toArray) rfl rfl) ?_
    rintro ww31 mm32
    have mm33 : Mo w ww31 [.arr gg3 24 (cellsOf (clb lf i b b.length)), .arr gg7 24 (cellsOf (clb lf i b b.length))] := mm32
    refine ⟨trivial, ?_⟩
    refine kend ?_
    refine th_n ?_
    refine re ?_
    refine rta Tryd.ah rfl (by rw [cellsOf_length]; exact clb_length (len_of hx) _ _ _) (mm33.arr 1 rfl) rfl ?_
    exact ⟨rfl, mm33.below⟩

set_option maxHeartbeats 1000000 in
theorem climb_doc_neg (lf : List UInt8) (z : Int) (v : Value) (b : List (List UInt8)) (w : World) (hx : (cellsOf lf).length = 32) (h32 : H32 b) (hv : Rc w.heap.size w v b.length (cH b)) (hn : b.length ≤ 1000000) (hz : z < 0) :
    Calls Tryd.prog 16 #[.agg (cellsOf lf).toArray, .int .i64 z, v] w fun e w' => e = .returned (.agg (cellsOf (clb lf 0 b b.length)).toArray) ∧ Below w.heap.size w w' := by
  have m0 := Mo.start w
  refine enter [.agg (cellsOf lf).toArray, .int .i64 z, v] 34 Tryd.func16 rfl Tryd.ntmps16 (Nat.le_of_ble_eq_true rfl) ?_
  refine sq ?_
  refine cz [(0, .agg (cellsOf lf).toArray), (1, .int .i64 z), (2, v)] ⟨rfl, rfl, rfl, trivial⟩ (fun _ => ?_)
  refine rp [2, 2] ?_
  refine k2 (wt_none rfl _) rfl (x_box 24 (.tmp 0) rfl m0 (cellsOf lf) rfl) ?_
  rintro _ ww1 ⟨gg3, rfl, mm2⟩
  refine ⟨trivial, ?_⟩
  refine k2 (wt_none rfl _) rfl (x_alc Tryd.ah rfl mm2 (cellsOf (List.replicate 32 0)) rfl) ?_
  rintro _ ww5 ⟨gg7, rfl, mm6⟩
  refine ⟨trivial, ?_⟩
  refine kend ?_
  refine th_n ?_
  refine sq ?_
  refine sq ?_
  refine cz [(0, .agg (cellsOf lf).toArray), (1, .int .i64 z), (2, v), (3, .pointer (some ⟨gg3, 0, none⟩)), (6, .pointer (some ⟨gg7, 0, none⟩))] ⟨rfl, rfl, rfl, rfl, rfl, trivial⟩ (fun _ => ?_)
  refine rp [0, 0] ?_
  refine k0 (wt_none rfl _) rfl (.int .i64 z) (fun _ _ => exec_move (.tmp 1) (.inl rfl) _ rfl) ?_
  refine k0 (wt_none rfl _) rfl (.bool true) (fun _ _ => x_lss (.tmp 8) (.const (.int .i64 0)) _ _ rfl z 0 true (by simp; omega) .i64 rfl rfl) ?_
  refine kend ?_
  refine th_n ?_
  refine cdt rfl ?_
  refine cz [(0, .agg (cellsOf lf).toArray), (1, .int .i64 z), (2, v), (3, .pointer (some ⟨gg3, 0, none⟩)), (6, .pointer (some ⟨gg7, 0, none⟩)), (9, .bool true)] ⟨rfl, rfl, rfl, rfl, rfl, rfl, trivial⟩ (fun _ => ?_)
  refine rp [0] ?_
  refine k0 (wt_none rfl _) rfl (.int .i64 0) (fun _ _ => exec_move (.const (.int .i64 0)) (.inr rfl) _ rfl) ?_
  refine kend ?_
  refine th_n ?_
  refine sq ?_
  refine sq ?_
  refine cz [(0, .agg (cellsOf lf).toArray), (1, .int .i64 0), (2, v), (3, .pointer (some ⟨gg3, 0, none⟩)), (6, .pointer (some ⟨gg7, 0, none⟩)), (9, .bool true)] ⟨rfl, rfl, rfl, rfl, rfl, rfl, trivial⟩ (fun _ => ?_)
  refine rp [0] ?_
  refine k0 (wt_none rfl _) rfl (.int .i64 0) (fun _ _ => exec_move (.const (.int .i64 0)) (.inr rfl) _ rfl) ?_
  refine kend ?_
  refine th_n ?_
  refine bk ?_
  have mm8 : Mo w ww5 [.arr gg7 24 (cellsOf (List.replicate 32 0)), .arr gg3 24 (cellsOf (clb lf 0 b 0))] := (by have h := mm6; rw [show cellsOf lf = cellsOf (clb lf 0 b 0) from (by rfl)] at h; exact h)
  refine lp (fun (xs : Nat × Nat) => [(1, .int .i64 ((xs.2 : Nat) : Int)), (2, v), (3, .pointer (some ⟨gg3, 0, none⟩)), (6, .pointer (some ⟨gg7, 0, none⟩)), (7, .int .i64 ((xs.1 : Nat) : Int))]) (fun (xs : Nat × Nat) w1 => (xs.1 ≤ b.length) ∧ (xs.2 = 0 / 2 ^ xs.1) ∧ Mo w w1 [.arr gg3 24 (cellsOf (clb lf 0 b xs.1)), .arr gg7 24 (cellsOf (List.replicate 32 0))]) (fun (xs : Nat × Nat) => b.length - xs.1) (⟨0, 0⟩) ⟨rfl, rfl, rfl, rfl, rfl, trivial⟩ ⟨(show 0 ≤ b.length from (Nat.zero_le _)), (show 0 = 0 / 2 ^ 0 from (by simp)), (show Mo w ww5 [.arr gg3 24 (cellsOf (clb lf 0 b 0)), .arr gg7 24 (cellsOf (List.replicate 32 0))] from mm8.pick [1, 0] (by decide) ⟨rfl, rfl, trivial⟩)⟩ ?_
  rintro ⟨k, p⟩ _ ww10 ⟨hh11, hh12, mm9⟩
  replace hh11 : k ≤ b.length := hh11
  replace hh12 : p = 0 / 2 ^ k := hh12
  replace mm9 : Mo w ww10 [.arr gg3 24 (cellsOf (clb lf 0 b k)), .arr gg7 24 (cellsOf (List.replicate 32 0))] := mm9
  refine cz [(1, .int .i64 ((p : Nat) : Int)), (2, v), (3, .pointer (some ⟨gg3, 0, none⟩)), (6, .pointer (some ⟨gg7, 0, none⟩)), (7, .int .i64 ((k : Nat) : Int))] ⟨rfl, rfl, rfl, rfl, rfl, trivial⟩ (fun _ => ?_)
  have hp9 : p ≤ 0 := by rw [hh12]; exact Nat.div_le_self _ _
  by_cases hlt : k < b.length
  · -- round
    refine sq ?_
    refine sq ?_
    refine cz [(1, .int .i64 ((p : Nat) : Int)), (2, v), (3, .pointer (some ⟨gg3, 0, none⟩)), (6, .pointer (some ⟨gg7, 0, none⟩)), (7, .int .i64 ((k : Nat) : Int))] ⟨rfl, rfl, rfl, rfl, rfl, trivial⟩ (fun _ => ?_)
    refine rp [0, 0, 1, 0] ?_
    refine k0 (wt_none rfl _) rfl (.int .i64 ((k : Nat) : Int)) (fun _ _ => exec_move (.tmp 7) (.inl rfl) _ rfl) ?_
    refine k0 (wt_none rfl _) rfl (v) (fun _ _ => exec_move (.tmp 2) (.inl rfl) _ rfl) ?_
    refine k1 (wt_none rfl _) rfl (.int .i64 ((b.length : Nat) : Int)) (x_len Tryd.sh.sl (.tmp 11) rfl (Rc.at hv mm9) rfl) ?_
    refine k0 (wt_none rfl _) rfl (.bool true) (fun _ _ => x_lss_t (.tmp 10) (.tmp 12) _ _ rfl k b.length .i64 (by omega) rfl rfl) ?_
    refine kend ?_
    refine th_n ?_
    refine cdt rfl ?_
    refine sk ?_
    refine th_n ?_
    refine sq ?_
    refine bk ?_
    refine sq ?_
    refine sq ?_
    by_cases hpar : p % 2 = 0
    · skip
      refine cz [(1, .int .i64 ((p : Nat) : Int)), (2, v), (3, .pointer (some ⟨gg3, 0, none⟩)), (6, .pointer (some ⟨gg7, 0, none⟩)), (7, .int .i64 ((k : Nat) : Int)), (13, .bool true)] ⟨rfl, rfl, rfl, rfl, rfl, rfl, trivial⟩ (fun _ => ?_)
      refine rp [0, 0, 0] ?_
      refine k0 (wt_none rfl _) rfl (.int .i64 ((p : Nat) : Int)) (fun _ _ => exec_move (.tmp 1) (.inl rfl) _ rfl) ?_
      refine k0 (wt_none rfl _) rfl (.int .i64 ((p % 2 : Nat) : Int)) (fun _ _ => x_rem (.tmp 16) (.const (.int .i64 2)) _ _ rfl p 2 (p % 2) .i64 (by exact ⟨rfl, by omega⟩) rfl rfl) ?_
      refine k0 (wt_none rfl _) rfl (.bool true) (fun _ _ => x_eql_t (.tmp 17) (.const (.int .i64 0)) _ _ rfl (p % 2) 0 .i64 (by omega) rfl rfl) ?_
      refine kend ?_
      refine th_n ?_
      refine cdt rfl ?_
      refine cz [(1, .int .i64 ((p : Nat) : Int)), (2, v), (3, .pointer (some ⟨gg3, 0, none⟩)), (6, .pointer (some ⟨gg7, 0, none⟩)), (7, .int .i64 ((k : Nat) : Int)), (13, .bool true), (18, .bool true)] ⟨rfl, rfl, rfl, rfl, rfl, rfl, rfl, trivial⟩ (fun _ => ?_)
      have mm14 := mm9.drew
      refine rq (fun w1 => Mo w w1 [.arr gg7 24 (cellsOf (List.replicate 32 0))]) [1, 0, 0, 0, 0, 2, 2] (by kernel_rfl) (by kernel_rfl) (by kernel_rfl) (mm14.sub (List.Sublist.cons _ (List.Sublist.cons_cons _ List.Sublist.slnil))) ?_
      refine k1 (wt_none rfl _) rfl (.agg (cellsOf (clb lf 0 b k)).toArray) (exec_load_arr Tryd.ah (.tmp 3) rfl gg3 _ (by rw [cellsOf_length]; exact clb_length (len_of hx) _ _ _) rfl (mm14.arr 0 rfl)) ?_
      refine k0 (wt_none rfl _) rfl (v) (fun _ _ => exec_move (.tmp 2) (.inl rfl) _ rfl) ?_
      refine k0 (wt_none rfl _) rfl (.int .i64 ((k : Nat) : Int)) (fun _ _ => exec_move (.tmp 7) (.inl rfl) _ rfl) ?_
      refine k0 (wt_none rfl _) rfl (eP v (k * 32)) (fun _ hC => x_ep Tryd.sh (.tmp 20) (.tmp 21) rfl (Rc.at hv hC) k .i64 (k * 32) rfl (by omega) rfl _ rfl rfl) ?_
      refine k0 (wt_none rfl _) rfl (.agg (cellsOf (atH b k)).toArray) (fun _ hC => x_lda Tryd.ah (.tmp 22) rfl (Rc.at hv hC) (k * 32) (by omega) (cellsOf (atH b k)) (by rw [cellsOf_length]; exact H32.at h32 (by omega)) (by decide) (cH_get h32 (by omega)) rfl) ?_
      refine kc (wt_none rfl _) rfl (x_cl2 (v0 := .agg (cellsOf (clb lf 0 b k)).toArray) (v1 := .agg (cellsOf (atH b k)).toArray) rfl rfl rfl (by kernel_rfl)) (pair_doc (clb lf 0 b k) (atH b k) _ (by rw [cellsOf_length]; exact clb_length (len_of hx) _ _ _) (by rw [cellsOf_length]; exact H32.at h32 (by omega))) ?_
      rintro _ ww15 ⟨rfl, mm16⟩
      have mm17 : Mo w ww15 [.arr gg3 24 (cellsOf (clb lf 0 b k)), .arr gg7 24 (cellsOf (List.replicate 32 0))] := mm14.gr mm16
      refine ⟨_, rfl, (mm17.sub (List.Sublist.cons _ (List.Sublist.cons_cons _ List.Sublist.slnil))), ?_⟩
      refine ks (wt_none rfl _) rfl rfl (x_sta (.tmp 3) (.tmp 24) rfl mm17 0 rfl 0 (cellsOf (pr (clb lf 0 b k) (atH b k))) (cellsOf (pr (clb lf 0 b k) (atH b k))) (at_size Tryd.ah (pr_len _ _)) (sta_len (by rw [cellsOf_length]; exact clb_length (len_of hx) _ _ _) (pr_len _ _)) (cellsOf_one _) (sta_all (by rw [cellsOf_length]; exact clb_length (len_of hx) _ _ _) (pr_len _ _)) rfl (.agg (cellsOf (pr (clb lf 0 b k) (atH b k))).toArray) rfl rfl) ?_
      rintro ww18 mm19
      have mm20 : Mo w ww18 [.arr gg3 24 (cellsOf (pr (clb lf 0 b k) (atH b k))), .arr gg7 24 (cellsOf (List.replicate 32 0))] := mm19
      refine ⟨(mm20.sub (List.Sublist.cons _ (List.Sublist.cons_cons _ List.Sublist.slnil))), ?_⟩
      refine kend ?_
      refine th_n ?_
      refine cz [(1, .int .i64 ((p : Nat) : Int)), (2, v), (3, .pointer (some ⟨gg3, 0, none⟩)), (6, .pointer (some ⟨gg7, 0, none⟩)), (7, .int .i64 ((k : Nat) : Int)), (13, .bool true), (18, .bool true)] ⟨rfl, rfl, rfl, rfl, rfl, rfl, rfl, trivial⟩ (fun _ => ?_)
      refine rp [0, 0, 0] ?_
      refine k0 (wt_none rfl _) rfl (.int .i64 ((p : Nat) : Int)) (fun _ _ => exec_move (.tmp 1) (.inl rfl) _ rfl) ?_
      refine k0 (wt_none rfl _) rfl (.int .i64 ((p / 2 : Nat) : Int)) (fun _ _ => x_quo (.tmp 31) (.const (.int .i64 2)) _ _ rfl p 2 (p / 2) .i64 (by exact ⟨rfl, by omega, (show _ < 9223372036854775808 by omega)⟩) rfl rfl) ?_
      refine k0 (wt_none rfl _) rfl (.int .i64 ((p / 2 : Nat) : Int)) (fun _ _ => exec_move (.tmp 32) (.inr rfl) _ rfl) ?_
      refine kend ?_
      refine ib_n ?_
      refine th_n ?_
      refine cz [(1, .int .i64 ((p / 2 : Nat) : Int)), (2, v), (3, .pointer (some ⟨gg3, 0, none⟩)), (6, .pointer (some ⟨gg7, 0, none⟩)), (7, .int .i64 ((k : Nat) : Int)), (13, .bool true), (18, .bool true)] ⟨rfl, rfl, rfl, rfl, rfl, rfl, rfl, trivial⟩ (fun _ => ?_)
      refine rp [0, 0, 0] ?_
      refine k0 (wt_none rfl _) rfl (.int .i64 ((k : Nat) : Int)) (fun _ _ => exec_move (.tmp 7) (.inl rfl) _ rfl) ?_
      refine k0 (wt_none rfl _) rfl (.int .i64 ((k + 1 : Nat) : Int)) (fun _ _ => x_add (.tmp 14) (.const (.int .i64 1)) _ _ rfl k 1 (k + 1) .i64 (by exact ⟨by omega, (show _ < 9223372036854775808 by omega)⟩) rfl rfl) ?_
      refine k0 (wt_none rfl _) rfl (.int .i64 ((k + 1 : Nat) : Int)) (fun _ _ => exec_move (.tmp 15) (.inr rfl) _ rfl) ?_
      refine kend ?_
      refine th_n ?_
      have mm21 : Mo w ww18 [.arr gg3 24 (cellsOf (clb lf 0 b (k + 1))), .arr gg7 24 (cellsOf (List.replicate 32 0))] := (by have h := mm20; rw [show cellsOf (pr (clb lf 0 b k) (atH b k)) = cellsOf (clb lf 0 b (k + 1)) from (by rw [clb, if_pos (by rw [← hh12]; exact hpar)])] at h; exact h)
      exact ⟨_, (⟨k + 1, p / 2⟩ : Nat × Nat), rfl, ⟨rfl, rfl, rfl, rfl, rfl, trivial⟩, ⟨(show (k + 1) ≤ b.length from (by omega)), (show (p / 2) = 0 / 2 ^ (k + 1) from (by rw [hh12, Nat.pow_succ, Nat.div_div_eq_div_mul])), (show Mo w ww18 [.arr gg3 24 (cellsOf (clb lf 0 b (k + 1))), .arr gg7 24 (cellsOf (List.replicate 32 0))] from mm21)⟩, (show b.length - (k + 1) < b.length - k by omega)⟩
    · skip
      refine cz [(1, .int .i64 ((p : Nat) : Int)), (2, v), (3, .pointer (some ⟨gg3, 0, none⟩)), (6, .pointer (some ⟨gg7, 0, none⟩)), (7, .int .i64 ((k : Nat) : Int)), (13, .bool true)] ⟨rfl, rfl, rfl, rfl, rfl, rfl, trivial⟩ (fun _ => ?_)
      refine rp [0, 0, 0] ?_
      refine k0 (wt_none rfl _) rfl (.int .i64 ((p : Nat) : Int)) (fun _ _ => exec_move (.tmp 1) (.inl rfl) _ rfl) ?_
      refine k0 (wt_none rfl _) rfl (.int .i64 ((p % 2 : Nat) : Int)) (fun _ _ => x_rem (.tmp 16) (.const (.int .i64 2)) _ _ rfl p 2 (p % 2) .i64 (by exact ⟨rfl, by omega⟩) rfl rfl) ?_
      refine k0 (wt_none rfl _) rfl (.bool false) (fun _ _ => x_eql_f (.tmp 17) (.const (.int .i64 0)) _ _ rfl (p % 2) 0 .i64 (by omega) rfl rfl) ?_
      refine kend ?_
      refine th_n ?_
      refine cdf rfl ?_
      refine cz [(1, .int .i64 ((p : Nat) : Int)), (2, v), (3, .pointer (some ⟨gg3, 0, none⟩)), (6, .pointer (some ⟨gg7, 0, none⟩)), (7, .int .i64 ((k : Nat) : Int)), (13, .bool true), (18, .bool false)] ⟨rfl, rfl, rfl, rfl, rfl, rfl, rfl, trivial⟩ (fun _ => ?_)
      have mm23 := mm9.drew
      refine rq (fun w1 => Mo w w1 [.arr gg7 24 (cellsOf (List.replicate 32 0))]) [0, 0, 0, 0, 1, 2, 2] (by kernel_rfl) (by kernel_rfl) (by kernel_rfl) (mm23.sub (List.Sublist.cons _ (List.Sublist.cons_cons _ List.Sublist.slnil))) ?_
      refine k0 (wt_none rfl _) rfl (v) (fun _ _ => exec_move (.tmp 2) (.inl rfl) _ rfl) ?_
      refine k0 (wt_none rfl _) rfl (.int .i64 ((k : Nat) : Int)) (fun _ _ => exec_move (.tmp 7) (.inl rfl) _ rfl) ?_
      refine k0 (wt_none rfl _) rfl (eP v (k * 32)) (fun _ hC => x_ep Tryd.sh (.tmp 25) (.tmp 26) rfl (Rc.at hv hC) k .i64 (k * 32) rfl (by omega) rfl _ rfl rfl) ?_
      refine k0 (wt_none rfl _) rfl (.agg (cellsOf (atH b k)).toArray) (fun _ hC => x_lda Tryd.ah (.tmp 27) rfl (Rc.at hv hC) (k * 32) (by omega) (cellsOf (atH b k)) (by rw [cellsOf_length]; exact H32.at h32 (by omega)) (by decide) (cH_get h32 (by omega)) rfl) ?_
      refine k1 (wt_none rfl _) rfl (.agg (cellsOf (clb lf 0 b k)).toArray) (exec_load_arr Tryd.ah (.tmp 3) rfl gg3 _ (by rw [cellsOf_length]; exact clb_length (len_of hx) _ _ _) rfl (mm23.arr 0 rfl)) ?_
      refine kc (wt_none rfl _) rfl (x_cl2 (v0 := .agg (cellsOf (atH b k)).toArray) (v1 := .agg (cellsOf (clb lf 0 b k)).toArray) rfl rfl rfl (by kernel_rfl)) (pair_doc (atH b k) (clb lf 0 b k) _ (by rw [cellsOf_length]; exact H32.at h32 (by omega)) (by rw [cellsOf_length]; exact clb_length (len_of hx) _ _ _)) ?_
      rintro _ ww24 ⟨rfl, mm25⟩
      have mm26 : Mo w ww24 [.arr gg3 24 (cellsOf (clb lf 0 b k)), .arr gg7 24 (cellsOf (List.replicate 32 0))] := mm23.gr mm25
      refine ⟨_, rfl, (mm26.sub (List.Sublist.cons _ (List.Sublist.cons_cons _ List.Sublist.slnil))), ?_⟩
      refine ks (wt_none rfl _) rfl rfl (x_sta (.tmp 3) (.tmp 30) rfl mm26 0 rfl 0 (cellsOf (pr (atH b k) (clb lf 0 b k))) (cellsOf (pr (atH b k) (clb lf 0 b k))) (at_size Tryd.ah (pr_len _ _)) (sta_len (by rw [cellsOf_length]; exact clb_length (len_of hx) _ _ _) (pr_len _ _)) (cellsOf_one _) (sta_all (by rw [cellsOf_length]; exact clb_length (len_of hx) _ _ _) (pr_len _ _)) rfl (.agg (cellsOf (pr (atH b k) (clb lf 0 b k))).toArray) rfl rfl) ?_
      rintro ww27 mm28
      have mm29 : Mo w ww27 [.arr gg3 24 (cellsOf (pr (atH b k) (clb lf 0 b k))), .arr gg7 24 (cellsOf (List.replicate 32 0))] := mm28
      refine ⟨(mm29.sub (List.Sublist.cons _ (List.Sublist.cons_cons _ List.Sublist.slnil))), ?_⟩
      refine kend ?_
      refine th_n ?_
      refine cz [(1, .int .i64 ((p : Nat) : Int)), (2, v), (3, .pointer (some ⟨gg3, 0, none⟩)), (6, .pointer (some ⟨gg7, 0, none⟩)), (7, .int .i64 ((k : Nat) : Int)), (13, .bool true), (18, .bool false)] ⟨rfl, rfl, rfl, rfl, rfl, rfl, rfl, trivial⟩ (fun _ => ?_)
      refine rp [0, 0, 0] ?_
      refine k0 (wt_none rfl _) rfl (.int .i64 ((p : Nat) : Int)) (fun _ _ => exec_move (.tmp 1) (.inl rfl) _ rfl) ?_
      refine k0 (wt_none rfl _) rfl (.int .i64 ((p / 2 : Nat) : Int)) (fun _ _ => x_quo (.tmp 31) (.const (.int .i64 2)) _ _ rfl p 2 (p / 2) .i64 (by exact ⟨rfl, by omega, (show _ < 9223372036854775808 by omega)⟩) rfl rfl) ?_
      refine k0 (wt_none rfl _) rfl (.int .i64 ((p / 2 : Nat) : Int)) (fun _ _ => exec_move (.tmp 32) (.inr rfl) _ rfl) ?_
      refine kend ?_
      refine ib_n ?_
      refine th_n ?_
      refine cz [(1, .int .i64 ((p / 2 : Nat) : Int)), (2, v), (3, .pointer (some ⟨gg3, 0, none⟩)), (6, .pointer (some ⟨gg7, 0, none⟩)), (7, .int .i64 ((k : Nat) : Int)), (13, .bool true), (18, .bool false)] ⟨rfl, rfl, rfl, rfl, rfl, rfl, rfl, trivial⟩ (fun _ => ?_)
      refine rp [0, 0, 0] ?_
      refine k0 (wt_none rfl _) rfl (.int .i64 ((k : Nat) : Int)) (fun _ _ => exec_move (.tmp 7) (.inl rfl) _ rfl) ?_
      refine k0 (wt_none rfl _) rfl (.int .i64 ((k + 1 : Nat) : Int)) (fun _ _ => x_add (.tmp 14) (.const (.int .i64 1)) _ _ rfl k 1 (k + 1) .i64 (by exact ⟨by omega, (show _ < 9223372036854775808 by omega)⟩) rfl rfl) ?_
      refine k0 (wt_none rfl _) rfl (.int .i64 ((k + 1 : Nat) : Int)) (fun _ _ => exec_move (.tmp 15) (.inr rfl) _ rfl) ?_
      refine kend ?_
      refine th_n ?_
      have mm30 : Mo w ww27 [.arr gg3 24 (cellsOf (clb lf 0 b (k + 1))), .arr gg7 24 (cellsOf (List.replicate 32 0))] := (by have h := mm29; rw [show cellsOf (pr (atH b k) (clb lf 0 b k)) = cellsOf (clb lf 0 b (k + 1)) from (by rw [clb, if_neg (by rw [← hh12]; exact hpar)])] at h; exact h)
      exact ⟨_, (⟨k + 1, p / 2⟩ : Nat × Nat), rfl, ⟨rfl, rfl, rfl, rfl, rfl, trivial⟩, ⟨(show (k + 1) ≤ b.length from (by omega)), (show (p / 2) = 0 / 2 ^ (k + 1) from (by rw [hh12, Nat.pow_succ, Nat.div_div_eq_div_mul])), (show Mo w ww27 [.arr gg3 24 (cellsOf (clb lf 0 b (k + 1))), .arr gg7 24 (cellsOf (List.replicate 32 0))] from mm30)⟩, (show b.length - (k + 1) < b.length - k by omega)⟩
  · -- behind the loop
    obtain rfl : k = b.length := by omega
    refine sq ?_
    refine sq ?_
    refine cz [(1, .int .i64 ((p : Nat) : Int)), (2, v), (3, .pointer (some ⟨gg3, 0, none⟩)), (6, .pointer (some ⟨gg7, 0, none⟩)), (7, .int .i64 ((b.length : Nat) : Int))] ⟨rfl, rfl, rfl, rfl, rfl, trivial⟩ (fun _ => ?_)
    refine rp [0, 0, 1, 0] ?_
    refine k0 (wt_none rfl _) rfl (.int .i64 ((b.length : Nat) : Int)) (fun _ _ => exec_move (.tmp 7) (.inl rfl) _ rfl) ?_
    refine k0 (wt_none rfl _) rfl (v) (fun _ _ => exec_move (.tmp 2) (.inl rfl) _ rfl) ?_
    refine k1 (wt_none rfl _) rfl (.int .i64 ((b.length : Nat) : Int)) (x_len Tryd.sh.sl (.tmp 11) rfl (Rc.at hv mm9) rfl) ?_
    refine k0 (wt_none rfl _) rfl (.bool false) (fun _ _ => x_lss_f (.tmp 10) (.tmp 12) _ _ rfl b.length b.length .i64 (by omega) rfl rfl) ?_
    refine kend ?_
    refine th_n ?_
    refine cdf rfl ?_
    refine ex ?_
    refine th_x ?_
    refine th_x ?_
    refine ib_x ?_
    refine th_n ?_
    refine sq ?_
    refine cz [(1, .int .i64 ((p : Nat) : Int)), (2, v), (3, .pointer (some ⟨gg3, 0, none⟩)), (6, .pointer (some ⟨gg7, 0, none⟩)), (7, .int .i64 ((b.length : Nat) : Int)), (13, .bool false)] ⟨rfl, rfl, rfl, rfl, rfl, rfl, trivial⟩ (fun _ => ?_)
    refine rp [1, 2] ?_
    refine k1 (wt_none rfl _) rfl (.agg (cellsOf (clb lf 0 b b.length)).toArray) (exec_load_arr Tryd.ah (.tmp 3) rfl gg3 _ (by rw [cellsOf_length]; exact clb_length (len_of hx) _ _ _) rfl (mm9.arr 0 rfl)) ?_
    refine ks (wt_none rfl _) rfl rfl (x_sta (.tmp 6) (.tmp 33) rfl mm9 1 rfl 0 (cellsOf (clb lf 0 b b.length)) (cellsOf (clb lf 0 b b.length)) (at_size Tryd.ah (by rw [cellsOf_length]; exact clb_length (len_of hx) _ _ _)) (sta_len (by rfl : (cellsOf (List.replicate 32 0)).length = 32) (by rw [cellsOf_length]; exact clb_length (len_of hx) _ _ _)) (cellsOf_one _) (sta_all (by rfl : (cellsOf (List.replicate 32 0)).length = 32) (by rw [cellsOf_length]; exact clb_length (len_of hx) _ _ _)) rfl (.agg (cellsOf (clb lf 0 b b.length)).toArray) rfl rfl) ?_
    rintro ww31 mm32
    have mm33 : Mo w ww31 [.arr gg3 24 (cellsOf (clb lf 0 b b.length)), .arr gg7 24 (cellsOf (clb lf 0 b b.length))] := mm32
    refine ⟨trivial, ?_⟩
    refine kend ?_
    refine th_n ?_
    refine re ?_
    refine rta Tryd.ah rfl (by rw [cellsOf_length]; exact clb_length (len_of hx) _ _ _) (mm33.arr 1 rfl) rfl ?_
    exact ⟨rfl, mm33.below⟩

set_option maxHeartbeats 1000000 in
theorem same_doc (v1 v2 : Value) (l : List (List UInt8)) (w : World) (h32 : H32 l) (h1 : Rc w.heap.size w v1 l.length (cH l)) (h2 : Rc w.heap.size w v2 l.length (cH l)) (hn : l.length ≤ 1000000) :
    Calls Tryd.prog 12 #[v1, v2] w fun e w' => e = .returned (.bool true) ∧ Below w.heap.size w w' := by
  have m0 := Mo.start w
  refine enter [v1, v2] 26 Tryd.func12 rfl Tryd.ntmps12 (Nat.le_of_ble_eq_true rfl) ?_
  refine sq ?_
  refine cz [(0, v1), (1, v2)] ⟨rfl, rfl, trivial⟩ (fun _ => ?_)
  refine rp [0] ?_
  refine k0 (wt_none rfl _) rfl (.bool false) (fun _ _ => exec_move (.const (.bool false)) (.inr rfl) _ rfl) ?_
  refine kend ?_
  refine th_n ?_
  refine sq ?_
  refine sq ?_
  refine cz [(0, v1), (1, v2), (4, .bool false)] ⟨rfl, rfl, rfl, trivial⟩ (fun _ => ?_)
  refine rp [0, 1, 0, 1, 0] ?_
  refine k0 (wt_none rfl _) rfl (v1) (fun _ _ => exec_move (.tmp 0) (.inl rfl) _ rfl) ?_
  refine k1 (wt_none rfl _) rfl (.int .i64 ((l.length : Nat) : Int)) (x_len Tryd.sh.sl (.tmp 6) rfl (Rc.at h1 m0) rfl) ?_
  refine k0 (wt_none rfl _) rfl (v2) (fun _ _ => exec_move (.tmp 1) (.inl rfl) _ rfl) ?_
  refine k1 (wt_none rfl _) rfl (.int .i64 ((l.length : Nat) : Int)) (x_len Tryd.sh.sl (.tmp 8) rfl (Rc.at h2 m0) rfl) ?_
  refine k0 (wt_none rfl _) rfl (.bool false) (fun _ _ => x_neq_f (.tmp 7) (.tmp 9) _ _ rfl l.length l.length .i64 rfl rfl rfl) ?_
  refine kend ?_
  refine th_n ?_
  refine cdf rfl ?_
  refine sk ?_
  refine th_n ?_
  refine sq ?_
  refine sq ?_
  refine cz [(0, v1), (1, v2), (4, .bool false), (10, .bool false)] ⟨rfl, rfl, rfl, rfl, trivial⟩ (fun _ => ?_)
  refine rp [0] ?_
  refine k0 (wt_none rfl _) rfl (.int .i64 0) (fun _ _ => exec_move (.const (.int .i64 0)) (.inr rfl) _ rfl) ?_
  refine kend ?_
  refine th_n ?_
  refine bk ?_
  refine lp (fun (xs : Nat) => [(0, v1), (1, v2), (5, .int .i64 ((xs : Nat) : Int))]) (fun (xs : Nat) w1 => (xs ≤ l.length) ∧ Mo w w1 []) (fun (xs : Nat) => l.length - xs) 0 ⟨rfl, rfl, rfl, trivial⟩ ⟨(show 0 ≤ l.length from (Nat.zero_le _)), (show Mo w w [] from m0)⟩ ?_
  rintro k _ ww2 ⟨hh3, mm1⟩
  replace hh3 : k ≤ l.length := hh3
  replace mm1 : Mo w ww2 [] := mm1
  refine cz [(0, v1), (1, v2), (5, .int .i64 ((k : Nat) : Int))] ⟨rfl, rfl, rfl, trivial⟩ (fun _ => ?_)
  by_cases hlt : k < l.length
  · -- round
    refine sq ?_
    refine sq ?_
    refine cz [(0, v1), (1, v2), (5, .int .i64 ((k : Nat) : Int))] ⟨rfl, rfl, rfl, trivial⟩ (fun _ => ?_)
    refine rp [0, 0, 1, 0] ?_
    refine k0 (wt_none rfl _) rfl (.int .i64 ((k : Nat) : Int)) (fun _ _ => exec_move (.tmp 5) (.inl rfl) _ rfl) ?_
    refine k0 (wt_none rfl _) rfl (v1) (fun _ _ => exec_move (.tmp 0) (.inl rfl) _ rfl) ?_
    refine k1 (wt_none rfl _) rfl (.int .i64 ((l.length : Nat) : Int)) (x_len Tryd.sh.sl (.tmp 12) rfl (Rc.at h1 mm1) rfl) ?_
    refine k0 (wt_none rfl _) rfl (.bool true) (fun _ _ => x_lss_t (.tmp 11) (.tmp 13) _ _ rfl k l.length .i64 (by omega) rfl rfl) ?_
    refine kend ?_
    refine th_n ?_
    refine cdt rfl ?_
    refine sk ?_
    refine th_n ?_
    refine sq ?_
    refine bk ?_
    refine sq ?_
    refine cz [(0, v1), (1, v2), (5, .int .i64 ((k : Nat) : Int)), (14, .bool true)] ⟨rfl, rfl, rfl, rfl, trivial⟩ (fun _ => ?_)
    have mm5 := mm1.drew
    refine rq (fun w1 => Mo w w1 []) [0, 0, 0, 0, 0, 0, 0, 0, 0] (by kernel_rfl) (by kernel_rfl) (by kernel_rfl) (mm5.sub List.Sublist.slnil) ?_
    refine k0 (wt_none rfl _) rfl (v1) (fun _ _ => exec_move (.tmp 0) (.inl rfl) _ rfl) ?_
    refine k0 (wt_none rfl _) rfl (.int .i64 ((k : Nat) : Int)) (fun _ _ => exec_move (.tmp 5) (.inl rfl) _ rfl) ?_
    refine k0 (wt_none rfl _) rfl (eP v1 (k * 32)) (fun _ hC => x_ep Tryd.sh (.tmp 17) (.tmp 18) rfl (Rc.at h1 hC) k .i64 (k * 32) rfl (by omega) rfl _ rfl rfl) ?_
    refine k0 (wt_none rfl _) rfl (.agg (cellsOf (atH l k)).toArray) (fun _ hC => x_lda Tryd.ah (.tmp 19) rfl (Rc.at h1 hC) (k * 32) (by omega) (cellsOf (atH l k)) (by rw [cellsOf_length]; exact H32.at h32 (by omega)) (by decide) (cH_get h32 (by omega)) rfl) ?_
    refine k0 (wt_none rfl _) rfl (v2) (fun _ _ => exec_move (.tmp 1) (.inl rfl) _ rfl) ?_
    refine k0 (wt_none rfl _) rfl (.int .i64 ((k : Nat) : Int)) (fun _ _ => exec_move (.tmp 5) (.inl rfl) _ rfl) ?_
    refine k0 (wt_none rfl _) rfl (eP v2 (k * 32)) (fun _ hC => x_ep Tryd.sh (.tmp 21) (.tmp 22) rfl (Rc.at h2 hC) k .i64 (k * 32) rfl (by omega) rfl _ rfl rfl) ?_
    refine k0 (wt_none rfl _) rfl (.agg (cellsOf (atH l k)).toArray) (fun _ hC => x_lda Tryd.ah (.tmp 23) rfl (Rc.at h2 hC) (k * 32) (by omega) (cellsOf (atH l k)) (by rw [cellsOf_length]; exact H32.at h32 (by omega)) (by decide) (cH_get h32 (by omega)) rfl) ?_
    refine k0 (wt_none rfl _) rfl (.bool false) (fun _ _ => x_nea Tryd.ah Tryd.u8 (by kernel_rfl) (.tmp 20) (.tmp 24) _ rfl (atH l k) (atH l k) (by rw [cellsOf_length]; exact H32.at h32 (by omega)) (by rw [cellsOf_length]; exact H32.at h32 (by omega)) true (decide_eq_true rfl) rfl rfl) ?_
    refine kend ?_
    refine th_n ?_
    refine cdf rfl ?_
    refine sk ?_
    refine ib_n ?_
    refine th_n ?_
    refine cz [(0, v1), (1, v2), (5, .int .i64 ((k : Nat) : Int)), (14, .bool true), (25, .bool false)] ⟨rfl, rfl, rfl, rfl, rfl, trivial⟩ (fun _ => ?_)
    refine rp [0, 0, 0] ?_
    refine k0 (wt_none rfl _) rfl (.int .i64 ((k : Nat) : Int)) (fun _ _ => exec_move (.tmp 5) (.inl rfl) _ rfl) ?_
    refine k0 (wt_none rfl _) rfl (.int .i64 ((k + 1 : Nat) : Int)) (fun _ _ => x_add (.tmp 15) (.const (.int .i64 1)) _ _ rfl k 1 (k + 1) .i64 (by exact ⟨by omega, (show _ < 9223372036854775808 by omega)⟩) rfl rfl) ?_
    refine k0 (wt_none rfl _) rfl (.int .i64 ((k + 1 : Nat) : Int)) (fun _ _ => exec_move (.tmp 16) (.inr rfl) _ rfl) ?_
    refine kend ?_
    refine th_n ?_
    exact ⟨_, (k + 1 : Nat), rfl, ⟨rfl, rfl, rfl, trivial⟩, ⟨(show (k + 1) ≤ l.length from (by omega)), (show Mo w (ww2.drewN 1) [] from mm5)⟩, (show l.length - (k + 1) < l.length - k by omega)⟩
  · -- behind the loop
    refine sq ?_
    refine sq ?_
    refine cz [(0, v1), (1, v2), (5, .int .i64 ((k : Nat) : Int))] ⟨rfl, rfl, rfl, trivial⟩ (fun _ => ?_)
    refine rp [0, 0, 1, 0] ?_
    refine k0 (wt_none rfl _) rfl (.int .i64 ((k : Nat) : Int)) (fun _ _ => exec_move (.tmp 5) (.inl rfl) _ rfl) ?_
    refine k0 (wt_none rfl _) rfl (v1) (fun _ _ => exec_move (.tmp 0) (.inl rfl) _ rfl) ?_
    refine k1 (wt_none rfl _) rfl (.int .i64 ((l.length : Nat) : Int)) (x_len Tryd.sh.sl (.tmp 12) rfl (Rc.at h1 mm1) rfl) ?_
    refine k0 (wt_none rfl _) rfl (.bool false) (fun _ _ => x_lss_f (.tmp 11) (.tmp 13) _ _ rfl k l.length .i64 (by omega) rfl rfl) ?_
    refine kend ?_
    refine th_n ?_
    refine cdf rfl ?_
    refine ex ?_
    refine th_x ?_
    refine th_x ?_
    refine ib_x ?_
    refine th_n ?_
    refine sq ?_
    refine cz [(0, v1), (1, v2), (5, .int .i64 ((k : Nat) : Int)), (14, .bool false)] ⟨rfl, rfl, rfl, rfl, trivial⟩ (fun _ => ?_)
    refine rp [0] ?_
    refine k0 (wt_none rfl _) rfl (.bool true) (fun _ _ => exec_move (.const (.bool true)) (.inr rfl) _ rfl) ?_
    refine kend ?_
    refine th_n ?_
    refine re ?_
    refine rt1 rfl ?_
    exact ⟨rfl, mm1.below⟩

end Go.Proofs.YtjlgbkkbflegcaaDoor
