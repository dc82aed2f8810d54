/-
  Contracts of package merkle's hasAlike, lifted, and of the document's lifted.
-/
import Derived.Test.YtjlgbkkbflegcaaDoorK1
namespace Go.Proofs.YtjlgbkkbflegcaaDoor
open Go.RowKit
theorem alike_of {row : List (List UInt8)} {k : Nat} {b : Bool} (h : row.length / 2 = k) (e : alk row k = b) : alike row = b := by unfold alike; rw [h, e]

set_option maxHeartbeats 1000000 in
theorem lifted_any (v : Value) (l : List (List UInt8)) (w : World) (h32 : H32 l) (hv : Rc w.heap.size w v l.length (cH l)) (hn : l.length ≤ 1000000) (ht : Tabs w) (h2 : 2 ≤ w.heap.size) :
    Calls Tryd.prog 25 #[v] w fun e w' => ∃ v', e = .returned v' ∧ Mo w w' [.own 24 32 v' (lft l).length (cH (lft l))] := by
  have m0 := Mo.start w
  refine enter [v] 32 Tryd.func25 rfl Tryd.ntmps25 (Nat.le_of_ble_eq_true rfl) ?_
  refine sq ?_
  refine cz [(0, v)] ⟨rfl, trivial⟩ (fun _ => ?_)
  refine rp [0] ?_
  refine k0 (wt_none rfl _) rfl (.slice none 0 0) (fun _ _ => exec_move (.const (.slice none 0 0)) (.inr rfl) _ rfl) ?_
  refine kend ?_
  refine th_n ?_
  refine sq ?_
  refine cz [(0, v), (2, .slice none 0 0)] ⟨rfl, rfl, trivial⟩ (fun _ => ?_)
  refine rp [0, 1, 0, 0, 2, 0] ?_
  refine k0 (wt_none rfl _) rfl (v) (fun _ _ => exec_move (.tmp 0) (.inl rfl) _ rfl) ?_
  refine k1 (wt_none rfl _) rfl (.int .i64 ((l.length : Nat) : Int)) (x_len Tryd.sh.sl (.tmp 5) rfl (Rc.at hv m0) rfl) ?_
  refine k0 (wt_none rfl _) rfl (.int .i64 ((l.length + 1 : Nat) : Int)) (fun _ _ => x_add (.tmp 6) (.const (.int .i64 1)) _ _ rfl l.length 1 (l.length + 1) .i64 (by exact ⟨by omega, (show _ < 9223372036854775808 by omega)⟩) rfl rfl) ?_
  refine k0 (wt_none rfl _) rfl (.int .i64 (((l.length + 1) / 2 : Nat) : Int)) (fun _ _ => x_quo (.tmp 7) (.const (.int .i64 2)) _ _ rfl (l.length + 1) 2 ((l.length + 1) / 2) .i64 (by exact ⟨rfl, by omega, (show _ < 9223372036854775808 by omega)⟩) rfl rfl) ?_
  refine k2 (wt_none rfl _) rfl (x_mk0 Tryd.sh (.const (.int .i64 0)) (.tmp 8) rfl m0 .i64 .i64 ((l.length + 1) / 2) (by omega) rfl rfl) ?_
  rintro vv1 ww2 mm3
  refine ⟨trivial, ?_⟩
  refine k0 (wt_none rfl _) rfl (vv1) (fun _ _ => exec_move (.tmp 9) (.inr rfl) _ rfl) ?_
  refine kend ?_
  refine th_n ?_
  refine sq ?_
  refine sq ?_
  refine cz [(0, v), (2, .slice none 0 0), (3, vv1)] ⟨rfl, rfl, rfl, trivial⟩ (fun _ => ?_)
  refine rp [0] ?_
  refine k0 (wt_none rfl _) rfl (.int .i64 0) (fun _ _ => exec_move (.const (.int .i64 0)) (.inr rfl) _ rfl) ?_
  refine kend ?_
  refine th_n ?_
  refine bk ?_
  refine lp (fun (x : Nat × Value) => [(0, v), (3, x.2), (4, .int .i64 ((2 * x.1 : Nat) : Int))]) (fun (x : Nat × Value) w1 => 2 * x.1 ≤ l.length + 1 ∧ Mo w w1 [.own 24 32 x.2 x.1 (cH (lfk l x.1))]) (fun (x : Nat × Value) => l.length + 1 - 2 * x.1) (⟨0, vv1⟩) ⟨rfl, rfl, rfl, trivial⟩ ⟨(show 2 * 0 ≤ l.length + 1 from (by omega)), (show Mo w ww2 [.own 24 32 vv1 0 (cH (lfk l 0))] from mm3)⟩ ?_
  rintro ⟨k, u3⟩ _ ww5 ⟨hh6, mm4⟩
  replace hh6 : 2 * k ≤ l.length + 1 := hh6
  replace mm4 : Mo w ww5 [.own 24 32 u3 k (cH (lfk l k))] := mm4
  refine cz [(0, v), (3, u3), (4, .int .i64 ((2 * k : Nat) : Int))] ⟨rfl, rfl, rfl, trivial⟩ (fun _ => ?_)
  by_cases hlt : 2 * k < l.length
  · -- round
    refine sq ?_
    refine sq ?_
    refine cz [(0, v), (3, u3), (4, .int .i64 ((2 * k : Nat) : Int))] ⟨rfl, rfl, rfl, trivial⟩ (fun _ => ?_)
    refine rp [0, 0, 1, 0] ?_
    refine k0 (wt_none rfl _) rfl (.int .i64 ((2 * k : Nat) : Int)) (fun _ _ => exec_move (.tmp 4) (.inl rfl) _ rfl) ?_
    refine k0 (wt_none rfl _) rfl (v) (fun _ _ => exec_move (.tmp 0) (.inl rfl) _ rfl) ?_
    refine k1 (wt_none rfl _) rfl (.int .i64 ((l.length : Nat) : Int)) (x_len Tryd.sh.sl (.tmp 11) rfl (Rc.at hv mm4) rfl) ?_
    refine k0 (wt_none rfl _) rfl (.bool true) (fun _ _ => x_lss_t (.tmp 10) (.tmp 12) _ _ rfl (2 * k) l.length .i64 (by omega) rfl rfl) ?_
    refine kend ?_
    refine th_n ?_
    refine cdt rfl ?_
    refine sk ?_
    refine th_n ?_
    refine sq ?_
    refine bk ?_
    refine cz [(0, v), (3, u3), (4, .int .i64 ((2 * k : Nat) : Int)), (13, .bool true)] ⟨rfl, rfl, rfl, rfl, trivial⟩ (fun _ => ?_)
    have mm8 := mm4.drew
    refine rq (fun w1 => Mo w w1 []) [0, 0, 0, 0, 0, 0, 0, 0, 0, 2, 0, 0, 2, 2, 2, 0] (by kernel_rfl) (by kernel_rfl) (by kernel_rfl) (mm8.sub (List.Sublist.cons _ List.Sublist.slnil)) ?_
    refine k0 (wt_none rfl _) rfl (u3) (fun _ _ => exec_move (.tmp 3) (.inl rfl) _ rfl) ?_
    refine k0 (wt_none rfl _) rfl (v) (fun _ _ => exec_move (.tmp 0) (.inl rfl) _ rfl) ?_
    refine k0 (wt_none rfl _) rfl (.int .i64 ((2 * k : Nat) : Int)) (fun _ _ => exec_move (.tmp 4) (.inl rfl) _ rfl) ?_
    refine k0 (wt_none rfl _) rfl (eP v ((2 * k) * 32)) (fun _ hC => x_ep Tryd.sh (.tmp 17) (.tmp 18) rfl (Rc.at hv hC) (2 * k) .i64 ((2 * k) * 32) rfl (by omega) rfl _ rfl rfl) ?_
    refine k0 (wt_none rfl _) rfl (.agg (cellsOf (atH l (2 * k))).toArray) (fun _ hC => x_lda Tryd.ah (.tmp 19) rfl (Rc.at hv hC) ((2 * k) * 32) (by omega) (cellsOf (atH l (2 * k))) (by rw [cellsOf_length]; exact H32.at h32 (by omega)) (by decide) (cH_get h32 (by omega)) rfl) ?_
    refine k0 (wt_none rfl _) rfl (v) (fun _ _ => exec_move (.tmp 0) (.inl rfl) _ rfl) ?_
    refine k0 (wt_none rfl _) rfl (.int .i64 ((2 * k : Nat) : Int)) (fun _ _ => exec_move (.tmp 4) (.inl rfl) _ rfl) ?_
    refine k0 (wt_none rfl _) rfl (v) (fun _ _ => exec_move (.tmp 0) (.inl rfl) _ rfl) ?_
    refine k0 (wt_none rfl _) rfl (.int .i64 ((l.length : Nat) : Int)) (fun _ hC => x_len Tryd.sh.sl (.tmp 23) rfl (Rc.at hv hC) rfl) ?_
    refine kq (wt_none rfl _) rfl (x_cl2 (v0 := .int .i64 ((2 * k : Nat) : Int)) (v1 := .int .i64 ((l.length : Nat) : Int)) rfl rfl rfl (by kernel_rfl)) (.int .i64 ((mt (2 * k) l.length : Nat) : Int)) (mate_any (2 * k) l.length _ hlt (by omega)) (mm8.sub (List.Sublist.cons _ List.Sublist.slnil)) ?_
    refine k0 (wt_none rfl _) rfl (eP v ((mt (2 * k) l.length) * 32)) (fun _ hC => x_ep Tryd.sh (.tmp 21) (.tmp 25) rfl (Rc.at hv hC) (mt (2 * k) l.length) .i64 ((mt (2 * k) l.length) * 32) rfl (mt_lt hlt) rfl _ rfl rfl) ?_
    refine k0 (wt_none rfl _) rfl (.agg (cellsOf (atH l (mt (2 * k) l.length))).toArray) (fun _ hC => x_lda Tryd.ah (.tmp 26) rfl (Rc.at hv hC) ((mt (2 * k) l.length) * 32) (by omega) (cellsOf (atH l (mt (2 * k) l.length))) (by rw [cellsOf_length]; exact H32.at h32 (mt_lt hlt)) (by decide) (cH_get h32 (mt_lt hlt)) rfl) ?_
    refine kc (wt_none rfl _) rfl (x_cl2 (v0 := .agg (cellsOf (atH l (2 * k))).toArray) (v1 := .agg (cellsOf (atH l (mt (2 * k) l.length))).toArray) rfl rfl rfl (by kernel_rfl)) (joined_any (atH l (2 * k)) (atH l (mt (2 * k) l.length)) _ (by rw [cellsOf_length]; exact H32.at h32 (by omega)) (by rw [cellsOf_length]; exact H32.at h32 (mt_lt hlt)) (ht.gr mm8.below) (Nat.le_trans h2 mm8.size)) ?_
    rintro _ ww9 ⟨rfl, mm10⟩
    have mm11 : Mo w ww9 [.own 24 32 u3 k (cH (lfk l k))] := mm8.gr mm10
    refine ⟨_, rfl, (mm11.sub (List.Sublist.cons _ List.Sublist.slnil)), ?_⟩
    refine k2 (wt_none rfl _) rfl (x_bld Tryd.sh 1 _ rfl mm11 (vH [pr (atH l (2 * k)) (atH l (mt (2 * k) l.length))]) (cH [pr (atH l (2 * k)) (atH l (mt (2 * k) l.length))]) rfl (by decide) (vH_size (H32.one (len_of (pr_len _ _)))) (vH_flat [pr (atH l (2 * k)) (atH l (mt (2 * k) l.length))]) rfl) ?_
    rintro vv12 ww13 mm14
    refine ⟨(mm14.sub (List.Sublist.cons _ (List.Sublist.cons _ List.Sublist.slnil))), ?_⟩
    refine k2 (wt_none rfl _) rfl (x_app Tryd.sh (.tmp 16) (.tmp 29) rfl mm14 1 rfl rfl (mm14.rc 0 rfl) (cH_len (H32.one (len_of (pr_len _ _))) rfl) (cH_one _) (by omega) rfl) ?_
    rintro vv15 ww16 mm17
    have mm18 : Mo w ww16 [.own 24 32 vv12 1 (cH ([pr (atH l (2 * k)) (atH l (mt (2 * k) l.length))])), .own 24 32 vv15 (k + 1) (cH (lfk l (k + 1)))] := (by have h := mm17; rw [← cH_append, (show (lfk l k) ++ ([pr (atH l (2 * k)) (atH l (mt (2 * k) l.length))]) = lfk l (k + 1) by rfl)] at h; exact h)
    refine ⟨(mm18.sub (List.Sublist.cons _ (List.Sublist.cons _ List.Sublist.slnil))), ?_⟩
    refine k0 (wt_none rfl _) rfl (vv15) (fun _ _ => exec_move (.tmp 30) (.inr rfl) _ rfl) ?_
    refine kend ?_
    refine ib_n ?_
    refine th_n ?_
    refine cz [(0, v), (3, vv15), (4, .int .i64 ((2 * k : Nat) : Int)), (13, .bool true)] ⟨rfl, rfl, rfl, rfl, trivial⟩ (fun _ => ?_)
    refine rp [0, 0, 0] ?_
    refine k0 (wt_none rfl _) rfl (.int .i64 ((2 * k : Nat) : Int)) (fun _ _ => exec_move (.tmp 4) (.inl rfl) _ rfl) ?_
    refine k0 (wt_none rfl _) rfl (.int .i64 ((2 * (k + 1) : Nat) : Int)) (fun _ _ => x_add (.tmp 14) (.const (.int .i64 2)) _ _ rfl (2 * k) 2 (2 * (k + 1)) .i64 (by exact ⟨by omega, (show _ < 9223372036854775808 by omega)⟩) rfl rfl) ?_
    refine k0 (wt_none rfl _) rfl (.int .i64 ((2 * (k + 1) : Nat) : Int)) (fun _ _ => exec_move (.tmp 15) (.inr rfl) _ rfl) ?_
    refine kend ?_
    refine th_n ?_
    exact ⟨_, (⟨k + 1, vv15⟩ : Nat × Value), rfl, ⟨rfl, rfl, rfl, trivial⟩, ⟨(show 2 * (k + 1) ≤ l.length + 1 from (by omega)), (show Mo w ww16 [.own 24 32 vv15 (k + 1) (cH (lfk l (k + 1)))] from mm18.pick [1] (by decide) ⟨rfl, trivial⟩)⟩, (show l.length + 1 - 2 * (k + 1) < l.length + 1 - 2 * k by omega)⟩
  · -- behind the loop
    obtain ⟨K, eK⟩ : ∃ K, (l.length + 1) / 2 = K := ⟨_, rfl⟩
    obtain rfl : K = k := by omega
    refine sq ?_
    refine sq ?_
    refine cz [(0, v), (3, u3), (4, .int .i64 ((2 * K : Nat) : Int))] ⟨rfl, rfl, rfl, trivial⟩ (fun _ => ?_)
    refine rp [0, 0, 1, 0] ?_
    refine k0 (wt_none rfl _) rfl (.int .i64 ((2 * K : Nat) : Int)) (fun _ _ => exec_move (.tmp 4) (.inl rfl) _ rfl) ?_
    refine k0 (wt_none rfl _) rfl (v) (fun _ _ => exec_move (.tmp 0) (.inl rfl) _ rfl) ?_
    refine k1 (wt_none rfl _) rfl (.int .i64 ((l.length : Nat) : Int)) (x_len Tryd.sh.sl (.tmp 11) rfl (Rc.at hv mm4) rfl) ?_
    refine k0 (wt_none rfl _) rfl (.bool false) (fun _ _ => x_lss_f (.tmp 10) (.tmp 12) _ _ rfl (2 * K) l.length .i64 (by omega) rfl rfl) ?_
    refine kend ?_
    refine th_n ?_
    refine cdf rfl ?_
    refine ex ?_
    refine th_x ?_
    refine th_x ?_
    refine ib_x ?_
    refine th_n ?_
    refine sq ?_
    refine cz [(0, v), (3, u3), (4, .int .i64 ((2 * K : Nat) : Int)), (13, .bool false)] ⟨rfl, rfl, rfl, rfl, trivial⟩ (fun _ => ?_)
    refine rp [0, 0] ?_
    refine k0 (wt_none rfl _) rfl (u3) (fun _ _ => exec_move (.tmp 3) (.inl rfl) _ rfl) ?_
    refine k0 (wt_none rfl _) rfl (u3) (fun _ _ => exec_move (.tmp 31) (.inr rfl) _ rfl) ?_
    refine kend ?_
    refine th_n ?_
    refine re ?_
    refine rt1 rfl ?_
    refine ⟨u3, rfl, ?_⟩
    have h : Mo w ww5 _ := mm4
    rw [lft_length, lft, eK]
    exact h

set_option maxHeartbeats 1000000 in
theorem lifted_doc (v : Value) (l : List (List UInt8)) (w : World) (h32 : H32 l) (hv : Rc w.heap.size w v l.length (cH l)) (hn : l.length ≤ 1000000) :
    Calls Tryd.prog 26 #[v] w fun e w' => ∃ v', e = .returned v' ∧ Mo w w' [.own 24 32 v' (lft l).length (cH (lft l))] := by
  have m0 := Mo.start w
  refine enter [v] 24 Tryd.func26 rfl Tryd.ntmps26 (Nat.le_of_ble_eq_true rfl) ?_
  refine sq ?_
  refine cz [(0, v)] ⟨rfl, trivial⟩ (fun _ => ?_)
  refine rp [0] ?_
  refine k0 (wt_none rfl _) rfl (.slice none 0 0) (fun _ _ => exec_move (.const (.slice none 0 0)) (.inr rfl) _ rfl) ?_
  refine kend ?_
  refine th_n ?_
  refine sq ?_
  refine cz [(0, v), (2, .slice none 0 0)] ⟨rfl, rfl, trivial⟩ (fun _ => ?_)
  refine rp [2, 0] ?_
  refine k2 (wt_none rfl _) rfl (x_bld Tryd.sh 0 _ rfl m0 [] [] rfl (by decide) (fun _ h => absurd h List.not_mem_nil) rfl rfl) ?_
  rintro vv1 ww2 mm3
  refine ⟨trivial, ?_⟩
  refine k0 (wt_none rfl _) rfl (vv1) (fun _ _ => exec_move (.tmp 5) (.inr rfl) _ rfl) ?_
  refine kend ?_
  refine th_n ?_
  refine sq ?_
  refine sq ?_
  refine cz [(0, v), (2, .slice none 0 0), (3, vv1)] ⟨rfl, rfl, rfl, trivial⟩ (fun _ => ?_)
  refine rp [0] ?_
  refine k0 (wt_none rfl _) rfl (.int .i64 0) (fun _ _ => exec_move (.const (.int .i64 0)) (.inr rfl) _ rfl) ?_
  refine kend ?_
  refine th_n ?_
  refine bk ?_
  refine lp (fun (x : Nat × Value) => [(0, v), (3, x.2), (4, .int .i64 ((2 * x.1 : Nat) : Int))]) (fun (x : Nat × Value) w1 => 2 * x.1 ≤ l.length + 1 ∧ Mo w w1 [.own 24 32 x.2 x.1 (cH (lfk l x.1))]) (fun (x : Nat × Value) => l.length + 1 - 2 * x.1) (⟨0, vv1⟩) ⟨rfl, rfl, rfl, trivial⟩ ⟨(show 2 * 0 ≤ l.length + 1 from (by omega)), (show Mo w ww2 [.own 24 32 vv1 0 (cH (lfk l 0))] from mm3)⟩ ?_
  rintro ⟨k, u3⟩ _ ww5 ⟨hh6, mm4⟩
  replace hh6 : 2 * k ≤ l.length + 1 := hh6
  replace mm4 : Mo w ww5 [.own 24 32 u3 k (cH (lfk l k))] := mm4
  refine cz [(0, v), (3, u3), (4, .int .i64 ((2 * k : Nat) : Int))] ⟨rfl, rfl, rfl, trivial⟩ (fun _ => ?_)
  by_cases hlt : 2 * k < l.length
  · -- round
    refine sq ?_
    refine sq ?_
    refine cz [(0, v), (3, u3), (4, .int .i64 ((2 * k : Nat) : Int))] ⟨rfl, rfl, rfl, trivial⟩ (fun _ => ?_)
    refine rp [0, 0, 1, 0] ?_
    refine k0 (wt_none rfl _) rfl (.int .i64 ((2 * k : Nat) : Int)) (fun _ _ => exec_move (.tmp 4) (.inl rfl) _ rfl) ?_
    refine k0 (wt_none rfl _) rfl (v) (fun _ _ => exec_move (.tmp 0) (.inl rfl) _ rfl) ?_
    refine k1 (wt_none rfl _) rfl (.int .i64 ((l.length : Nat) : Int)) (x_len Tryd.sh.sl (.tmp 7) rfl (Rc.at hv mm4) rfl) ?_
    refine k0 (wt_none rfl _) rfl (.bool true) (fun _ _ => x_lss_t (.tmp 6) (.tmp 8) _ _ rfl (2 * k) l.length .i64 (by omega) rfl rfl) ?_
    refine kend ?_
    refine th_n ?_
    refine cdt rfl ?_
    refine sk ?_
    refine th_n ?_
    refine sq ?_
    refine bk ?_
    refine cz [(0, v), (3, u3), (4, .int .i64 ((2 * k : Nat) : Int)), (9, .bool true)] ⟨rfl, rfl, rfl, rfl, trivial⟩ (fun _ => ?_)
    have mm8 := mm4.drew
    refine rq (fun w1 => Mo w w1 []) [0, 0, 0, 0, 0, 0, 0, 2, 2, 2, 2, 0] (by kernel_rfl) (by kernel_rfl) (by kernel_rfl) (mm8.sub (List.Sublist.cons _ List.Sublist.slnil)) ?_
    refine k0 (wt_none rfl _) rfl (u3) (fun _ _ => exec_move (.tmp 3) (.inl rfl) _ rfl) ?_
    refine k0 (wt_none rfl _) rfl (v) (fun _ _ => exec_move (.tmp 0) (.inl rfl) _ rfl) ?_
    refine k0 (wt_none rfl _) rfl (.int .i64 ((2 * k : Nat) : Int)) (fun _ _ => exec_move (.tmp 4) (.inl rfl) _ rfl) ?_
    refine k0 (wt_none rfl _) rfl (eP v ((2 * k) * 32)) (fun _ hC => x_ep Tryd.sh (.tmp 13) (.tmp 14) rfl (Rc.at hv hC) (2 * k) .i64 ((2 * k) * 32) rfl (by omega) rfl _ rfl rfl) ?_
    refine k0 (wt_none rfl _) rfl (.agg (cellsOf (atH l (2 * k))).toArray) (fun _ hC => x_lda Tryd.ah (.tmp 15) rfl (Rc.at hv hC) ((2 * k) * 32) (by omega) (cellsOf (atH l (2 * k))) (by rw [cellsOf_length]; exact H32.at h32 (by omega)) (by decide) (cH_get h32 (by omega)) rfl) ?_
    refine k0 (wt_none rfl _) rfl (v) (fun _ _ => exec_move (.tmp 0) (.inl rfl) _ rfl) ?_
    refine k0 (wt_none rfl _) rfl (.int .i64 ((2 * k : Nat) : Int)) (fun _ _ => exec_move (.tmp 4) (.inl rfl) _ rfl) ?_
    refine kc (wt_none rfl _) rfl (x_cl2 (v0 := v) (v1 := .int .i64 ((2 * k : Nat) : Int)) rfl rfl rfl (by kernel_rfl)) (partner_doc v l (2 * k) _ h32 (Rc.at hv mm8) hlt (by omega)) ?_
    rintro _ ww9 ⟨rfl, mm10⟩
    have mm11 : Mo w ww9 [.own 24 32 u3 k (cH (lfk l k))] := mm8.gr mm10
    refine ⟨_, rfl, (mm11.sub (List.Sublist.cons _ List.Sublist.slnil)), ?_⟩
    refine kc (wt_none rfl _) rfl (x_cl2 (v0 := .agg (cellsOf (atH l (2 * k))).toArray) (v1 := .agg (cellsOf (atH l (mt (2 * k) l.length))).toArray) rfl rfl rfl (by kernel_rfl)) (pair_doc (atH l (2 * k)) (atH l (mt (2 * k) l.length)) _ (by rw [cellsOf_length]; exact H32.at h32 (by omega)) (by rw [cellsOf_length]; exact H32.at h32 (mt_lt hlt))) ?_
    rintro _ ww12 ⟨rfl, mm13⟩
    have mm14 : Mo w ww12 [.own 24 32 u3 k (cH (lfk l k))] := mm11.gr mm13
    refine ⟨_, rfl, (mm14.sub (List.Sublist.cons _ List.Sublist.slnil)), ?_⟩
    refine k2 (wt_none rfl _) rfl (x_bld Tryd.sh 1 _ rfl mm14 (vH [pr (atH l (2 * k)) (atH l (mt (2 * k) l.length))]) (cH [pr (atH l (2 * k)) (atH l (mt (2 * k) l.length))]) rfl (by decide) (vH_size (H32.one (len_of (pr_len _ _)))) (vH_flat [pr (atH l (2 * k)) (atH l (mt (2 * k) l.length))]) rfl) ?_
    rintro vv15 ww16 mm17
    refine ⟨(mm17.sub (List.Sublist.cons _ (List.Sublist.cons _ List.Sublist.slnil))), ?_⟩
    refine k2 (wt_none rfl _) rfl (x_app Tryd.sh (.tmp 12) (.tmp 21) rfl mm17 1 rfl rfl (mm17.rc 0 rfl) (cH_len (H32.one (len_of (pr_len _ _))) rfl) (cH_one _) (by omega) rfl) ?_
    rintro vv18 ww19 mm20
    have mm21 : Mo w ww19 [.own 24 32 vv15 1 (cH ([pr (atH l (2 * k)) (atH l (mt (2 * k) l.length))])), .own 24 32 vv18 (k + 1) (cH (lfk l (k + 1)))] := (by have h := mm20; rw [← cH_append, (show (lfk l k) ++ ([pr (atH l (2 * k)) (atH l (mt (2 * k) l.length))]) = lfk l (k + 1) by rfl)] at h; exact h)
    refine ⟨(mm21.sub (List.Sublist.cons _ (List.Sublist.cons _ List.Sublist.slnil))), ?_⟩
    refine k0 (wt_none rfl _) rfl (vv18) (fun _ _ => exec_move (.tmp 22) (.inr rfl) _ rfl) ?_
    refine kend ?_
    refine ib_n ?_
    refine th_n ?_
    refine cz [(0, v), (3, vv18), (4, .int .i64 ((2 * k : Nat) : Int)), (9, .bool true)] ⟨rfl, rfl, rfl, rfl, trivial⟩ (fun _ => ?_)
    refine rp [0, 0, 0] ?_
    refine k0 (wt_none rfl _) rfl (.int .i64 ((2 * k : Nat) : Int)) (fun _ _ => exec_move (.tmp 4) (.inl rfl) _ rfl) ?_
    refine k0 (wt_none rfl _) rfl (.int .i64 ((2 * (k + 1) : Nat) : Int)) (fun _ _ => x_add (.tmp 10) (.const (.int .i64 2)) _ _ rfl (2 * k) 2 (2 * (k + 1)) .i64 (by exact ⟨by omega, (show _ < 9223372036854775808 by omega)⟩) rfl rfl) ?_
    refine k0 (wt_none rfl _) rfl (.int .i64 ((2 * (k + 1) : Nat) : Int)) (fun _ _ => exec_move (.tmp 11) (.inr rfl) _ rfl) ?_
    refine kend ?_
    refine th_n ?_
    exact ⟨_, (⟨k + 1, vv18⟩ : Nat × Value), rfl, ⟨rfl, rfl, rfl, trivial⟩, ⟨(show 2 * (k + 1) ≤ l.length + 1 from (by omega)), (show Mo w ww19 [.own 24 32 vv18 (k + 1) (cH (lfk l (k + 1)))] from mm21.pick [1] (by decide) ⟨rfl, trivial⟩)⟩, (show l.length + 1 - 2 * (k + 1) < l.length + 1 - 2 * k by omega)⟩
  · -- behind the loop
    obtain ⟨K, eK⟩ : ∃ K, (l.length + 1) / 2 = K := ⟨_, rfl⟩
    obtain rfl : K = k := by omega
    refine sq ?_
    refine sq ?_
    refine cz [(0, v), (3, u3), (4, .int .i64 ((2 * K : Nat) : Int))] ⟨rfl, rfl, rfl, trivial⟩ (fun _ => ?_)
    refine rp [0, 0, 1, 0] ?_
    refine k0 (wt_none rfl _) rfl (.int .i64 ((2 * K : Nat) : Int)) (fun _ _ => exec_move (.tmp 4) (.inl rfl) _ rfl) ?_
    refine k0 (wt_none rfl _) rfl (v) (fun _ _ => exec_move (.tmp 0) (.inl rfl) _ rfl) ?_
    refine k1 (wt_none rfl _) rfl (.int .i64 ((l.length : Nat) : Int)) (x_len Tryd.sh.sl (.tmp 7) rfl (Rc.at hv mm4) rfl) ?_
    refine k0 (wt_none rfl _) rfl (.bool false) (fun _ _ => x_lss_f (.tmp 6) (.tmp 8) _ _ rfl (2 * K) l.length .i64 (by omega) rfl rfl) ?_
    refine kend ?_
    refine th_n ?_
    refine cdf rfl ?_
    refine ex ?_
    refine th_x ?_
    refine th_x ?_
    refine ib_x ?_
    refine th_n ?_
    refine sq ?_
    refine cz [(0, v), (3, u3), (4, .int .i64 ((2 * K : Nat) : Int)), (9, .bool false)] ⟨rfl, rfl, rfl, rfl, trivial⟩ (fun _ => ?_)
    refine rp [0, 0] ?_
    refine k0 (wt_none rfl _) rfl (u3) (fun _ _ => exec_move (.tmp 3) (.inl rfl) _ rfl) ?_
    refine k0 (wt_none rfl _) rfl (u3) (fun _ _ => exec_move (.tmp 23) (.inr rfl) _ rfl) ?_
    refine kend ?_
    refine th_n ?_
    refine re ?_
    refine rt1 rfl ?_
    refine ⟨u3, rfl, ?_⟩
    have h : Mo w ww5 _ := mm4
    rw [lft_length, lft, eK]
    exact h

set_option maxHeartbeats 1000000 in
theorem hasAlike_any (v : Value) (l : List (List UInt8)) (w : World) (h32 : H32 l) (hv : Rc w.heap.size w v l.length (cH l)) (hn : l.length ≤ 1000000) :
    Calls Tryd.prog 24 #[v] w fun e w' => e = .returned (.bool (alike l)) ∧ Below w.heap.size w w' := by
  have m0 := Mo.start w
  refine enter [v] 20 Tryd.func24 rfl Tryd.ntmps24 (Nat.le_of_ble_eq_true rfl) ?_
  refine sq ?_
  refine cz [(0, v)] ⟨rfl, trivial⟩ (fun _ => ?_)
  refine rp [0] ?_
  refine k0 (wt_none rfl _) rfl (.bool false) (fun _ _ => exec_move (.const (.bool false)) (.inr rfl) _ rfl) ?_
  refine kend ?_
  refine th_n ?_
  refine sq ?_
  refine sq ?_
  refine cz [(0, v), (2, .bool false)] ⟨rfl, rfl, trivial⟩ (fun _ => ?_)
  refine rp [0] ?_
  refine k0 (wt_none rfl _) rfl (.int .i64 1) (fun _ _ => exec_move (.const (.int .i64 1)) (.inr rfl) _ rfl) ?_
  refine kend ?_
  refine th_n ?_
  refine bk ?_
  refine lp (fun (x : Nat) => [(0, v), (3, .int .i64 ((2 * x + 1 : Nat) : Int))]) (fun (x : Nat) w1 => 2 * x ≤ l.length ∧ alk l x = false ∧ Mo w w1 []) (fun (x : Nat) => l.length - 2 * x) 0 ⟨rfl, rfl, trivial⟩ ⟨(show 2 * 0 ≤ l.length from (Nat.zero_le _)), (show alk l 0 = false from rfl), (show Mo w w [] from m0)⟩ ?_
  rintro k _ ww2 ⟨hh3, hh4, mm1⟩
  replace hh3 : 2 * k ≤ l.length := hh3
  replace hh4 : alk l k = false := hh4
  replace mm1 : Mo w ww2 [] := mm1
  refine cz [(0, v), (3, .int .i64 ((2 * k + 1 : Nat) : Int))] ⟨rfl, rfl, trivial⟩ (fun _ => ?_)
  by_cases hlt : 2 * k + 1 < l.length
  · -- round
    refine sq ?_
    refine sq ?_
    refine cz [(0, v), (3, .int .i64 ((2 * k + 1 : Nat) : Int))] ⟨rfl, rfl, trivial⟩ (fun _ => ?_)
    refine rp [0, 0, 1, 0] ?_
    refine k0 (wt_none rfl _) rfl (.int .i64 ((2 * k + 1 : Nat) : Int)) (fun _ _ => exec_move (.tmp 3) (.inl rfl) _ rfl) ?_
    refine k0 (wt_none rfl _) rfl (v) (fun _ _ => exec_move (.tmp 0) (.inl rfl) _ rfl) ?_
    refine k1 (wt_none rfl _) rfl (.int .i64 ((l.length : Nat) : Int)) (x_len Tryd.sh.sl (.tmp 5) rfl (Rc.at hv mm1) rfl) ?_
    refine k0 (wt_none rfl _) rfl (.bool true) (fun _ _ => x_lss_t (.tmp 4) (.tmp 6) _ _ rfl (2 * k + 1) l.length .i64 (by omega) rfl rfl) ?_
    refine kend ?_
    refine th_n ?_
    refine cdt rfl ?_
    refine sk ?_
    refine th_n ?_
    refine sq ?_
    refine bk ?_
    refine sq ?_
    by_cases heq : atH l (2 * k) = atH l (2 * k + 1)
    · skip
      refine cz [(0, v), (3, .int .i64 ((2 * k + 1 : Nat) : Int)), (7, .bool true)] ⟨rfl, rfl, rfl, trivial⟩ (fun _ => ?_)
      have mm6 := mm1.drew
      refine rq (fun w1 => Mo w w1 []) [0, 0, 0, 0, 0, 0, 0, 0, 0, 0] (by kernel_rfl) (by kernel_rfl) (by kernel_rfl) (mm6.sub List.Sublist.slnil) ?_
      refine k0 (wt_none rfl _) rfl (v) (fun _ _ => exec_move (.tmp 0) (.inl rfl) _ rfl) ?_
      refine k0 (wt_none rfl _) rfl (.int .i64 ((2 * k + 1 : Nat) : Int)) (fun _ _ => exec_move (.tmp 3) (.inl rfl) _ rfl) ?_
      refine k0 (wt_none rfl _) rfl (.int .i64 ((2 * k : Nat) : Int)) (fun _ _ => x_sub (.tmp 11) (.const (.int .i64 1)) _ _ rfl (2 * k + 1) 1 (2 * k) .i64 (by exact ⟨by omega, (show _ < 9223372036854775808 by omega)⟩) rfl rfl) ?_
      refine k0 (wt_none rfl _) rfl (eP v ((2 * k) * 32)) (fun _ hC => x_ep Tryd.sh (.tmp 10) (.tmp 12) rfl (Rc.at hv hC) (2 * k) .i64 ((2 * k) * 32) rfl (by omega) rfl _ rfl rfl) ?_
      refine k0 (wt_none rfl _) rfl (.agg (cellsOf (atH l (2 * k))).toArray) (fun _ hC => x_lda Tryd.ah (.tmp 13) rfl (Rc.at hv hC) ((2 * k) * 32) (by omega) (cellsOf (atH l (2 * k))) (by rw [cellsOf_length]; exact H32.at h32 (by omega)) (by decide) (cH_get h32 (by omega)) rfl) ?_
      refine k0 (wt_none rfl _) rfl (v) (fun _ _ => exec_move (.tmp 0) (.inl rfl) _ rfl) ?_
      refine k0 (wt_none rfl _) rfl (.int .i64 ((2 * k + 1 : Nat) : Int)) (fun _ _ => exec_move (.tmp 3) (.inl rfl) _ rfl) ?_
      refine k0 (wt_none rfl _) rfl (eP v ((2 * k + 1) * 32)) (fun _ hC => x_ep Tryd.sh (.tmp 15) (.tmp 16) rfl (Rc.at hv hC) (2 * k + 1) .i64 ((2 * k + 1) * 32) rfl (by omega) rfl _ rfl rfl) ?_
      refine k0 (wt_none rfl _) rfl (.agg (cellsOf (atH l (2 * k + 1))).toArray) (fun _ hC => x_lda Tryd.ah (.tmp 17) rfl (Rc.at hv hC) ((2 * k + 1) * 32) (by omega) (cellsOf (atH l (2 * k + 1))) (by rw [cellsOf_length]; exact H32.at h32 (by omega)) (by decide) (cH_get h32 (by omega)) rfl) ?_
      refine k0 (wt_none rfl _) rfl (.bool true) (fun _ _ => x_eqa Tryd.ah Tryd.u8 (by kernel_rfl) (.tmp 14) (.tmp 18) _ rfl (atH l (2 * k)) (atH l (2 * k + 1)) (by rw [cellsOf_length]; exact H32.at h32 (by omega)) (by rw [cellsOf_length]; exact H32.at h32 (by omega)) true (decide_eq_true heq) rfl rfl) ?_
      refine kend ?_
      refine th_n ?_
      refine cdt rfl ?_
      refine sq ?_
      refine cz [(0, v), (3, .int .i64 ((2 * k + 1 : Nat) : Int)), (7, .bool true), (19, .bool true)] ⟨rfl, rfl, rfl, rfl, trivial⟩ (fun _ => ?_)
      refine rp [0] ?_
      refine k0 (wt_none rfl _) rfl (.bool true) (fun _ _ => exec_move (.const (.bool true)) (.inr rfl) _ rfl) ?_
      refine kend ?_
      refine th_n ?_
      refine re ?_
      refine ib_r ?_
      refine th_r ?_
      refine th_r ?_
      refine ib_r ?_
      refine th_r ?_
      refine rt1 rfl ?_
      exact ⟨by rw [show alike l = true from alk_mono _ (show alk l (k + 1) = true by rw [alk, heq]; simp) (by omega)]; rfl, mm6.below⟩
    · skip
      refine cz [(0, v), (3, .int .i64 ((2 * k + 1 : Nat) : Int)), (7, .bool true)] ⟨rfl, rfl, rfl, trivial⟩ (fun _ => ?_)
      have mm8 := mm1.drew
      refine rq (fun w1 => Mo w w1 []) [0, 0, 0, 0, 0, 0, 0, 0, 0, 0] (by kernel_rfl) (by kernel_rfl) (by kernel_rfl) (mm8.sub List.Sublist.slnil) ?_
      refine k0 (wt_none rfl _) rfl (v) (fun _ _ => exec_move (.tmp 0) (.inl rfl) _ rfl) ?_
      refine k0 (wt_none rfl _) rfl (.int .i64 ((2 * k + 1 : Nat) : Int)) (fun _ _ => exec_move (.tmp 3) (.inl rfl) _ rfl) ?_
      refine k0 (wt_none rfl _) rfl (.int .i64 ((2 * k : Nat) : Int)) (fun _ _ => x_sub (.tmp 11) (.const (.int .i64 1)) _ _ rfl (2 * k + 1) 1 (2 * k) .i64 (by exact ⟨by omega, (show _ < 9223372036854775808 by omega)⟩) rfl rfl) ?_
      refine k0 (wt_none rfl _) rfl (eP v ((2 * k) * 32)) (fun _ hC => x_ep Tryd.sh (.tmp 10) (.tmp 12) rfl (Rc.at hv hC) (2 * k) .i64 ((2 * k) * 32) rfl (by omega) rfl _ rfl rfl) ?_
      refine k0 (wt_none rfl _) rfl (.agg (cellsOf (atH l (2 * k))).toArray) (fun _ hC => x_lda Tryd.ah (.tmp 13) rfl (Rc.at hv hC) ((2 * k) * 32) (by omega) (cellsOf (atH l (2 * k))) (by rw [cellsOf_length]; exact H32.at h32 (by omega)) (by decide) (cH_get h32 (by omega)) rfl) ?_
      refine k0 (wt_none rfl _) rfl (v) (fun _ _ => exec_move (.tmp 0) (.inl rfl) _ rfl) ?_
      refine k0 (wt_none rfl _) rfl (.int .i64 ((2 * k + 1 : Nat) : Int)) (fun _ _ => exec_move (.tmp 3) (.inl rfl) _ rfl) ?_
      refine k0 (wt_none rfl _) rfl (eP v ((2 * k + 1) * 32)) (fun _ hC => x_ep Tryd.sh (.tmp 15) (.tmp 16) rfl (Rc.at hv hC) (2 * k + 1) .i64 ((2 * k + 1) * 32) rfl (by omega) rfl _ rfl rfl) ?_
      refine k0 (wt_none rfl _) rfl (.agg (cellsOf (atH l (2 * k + 1))).toArray) (fun _ hC => x_lda Tryd.ah (.tmp 17) rfl (Rc.at hv hC) ((2 * k + 1) * 32) (by omega) (cellsOf (atH l (2 * k + 1))) (by rw [cellsOf_length]; exact H32.at h32 (by omega)) (by decide) (cH_get h32 (by omega)) rfl) ?_
      refine k0 (wt_none rfl _) rfl (.bool false) (fun _ _ => x_eqa Tryd.ah Tryd.u8 (by kernel_rfl) (.tmp 14) (.tmp 18) _ rfl (atH l (2 * k)) (atH l (2 * k + 1)) (by rw [cellsOf_length]; exact H32.at h32 (by omega)) (by rw [cellsOf_length]; exact H32.at h32 (by omega)) false (decide_eq_false heq) rfl rfl) ?_
      refine kend ?_
      refine th_n ?_
      refine cdf rfl ?_
      refine sk ?_
      refine ib_n ?_
      refine th_n ?_
      refine cz [(0, v), (3, .int .i64 ((2 * k + 1 : Nat) : Int)), (7, .bool true), (19, .bool false)] ⟨rfl, rfl, rfl, rfl, trivial⟩ (fun _ => ?_)
      refine rp [0, 0, 0] ?_
      refine k0 (wt_none rfl _) rfl (.int .i64 ((2 * k + 1 : Nat) : Int)) (fun _ _ => exec_move (.tmp 3) (.inl rfl) _ rfl) ?_
      refine k0 (wt_none rfl _) rfl (.int .i64 ((2 * (k + 1) + 1 : Nat) : Int)) (fun _ _ => x_add (.tmp 8) (.const (.int .i64 2)) _ _ rfl (2 * k + 1) 2 (2 * (k + 1) + 1) .i64 (by exact ⟨by omega, (show _ < 9223372036854775808 by omega)⟩) rfl rfl) ?_
      refine k0 (wt_none rfl _) rfl (.int .i64 ((2 * (k + 1) + 1 : Nat) : Int)) (fun _ _ => exec_move (.tmp 9) (.inr rfl) _ rfl) ?_
      refine kend ?_
      refine th_n ?_
      exact ⟨_, (k + 1 : Nat), rfl, ⟨rfl, rfl, trivial⟩, ⟨(show 2 * (k + 1) ≤ l.length from (by omega)), (show alk l (k + 1) = false from (by rw [alk, hh4]; simp [heq])), (show Mo w (ww2.drewN 1) [] from mm8)⟩, (show l.length - 2 * (k + 1) < l.length - 2 * k by omega)⟩
  · -- behind the loop
    refine sq ?_
    refine sq ?_
    refine cz [(0, v), (3, .int .i64 ((2 * k + 1 : Nat) : Int))] ⟨rfl, rfl, trivial⟩ (fun _ => ?_)
    refine rp [0, 0, 1, 0] ?_
    refine k0 (wt_none rfl _) rfl (.int .i64 ((2 * k + 1 : Nat) : Int)) (fun _ _ => exec_move (.tmp 3) (.inl rfl) _ rfl) ?_
    refine k0 (wt_none rfl _) rfl (v) (fun _ _ => exec_move (.tmp 0) (.inl rfl) _ rfl) ?_
    refine k1 (wt_none rfl _) rfl (.int .i64 ((l.length : Nat) : Int)) (x_len Tryd.sh.sl (.tmp 5) rfl (Rc.at hv mm1) rfl) ?_
    refine k0 (wt_none rfl _) rfl (.bool false) (fun _ _ => x_lss_f (.tmp 4) (.tmp 6) _ _ rfl (2 * k + 1) l.length .i64 (by omega) rfl rfl) ?_
    refine kend ?_
    refine th_n ?_
    refine cdf rfl ?_
    refine ex ?_
    refine th_x ?_
    refine th_x ?_
    refine ib_x ?_
    refine th_n ?_
    refine sq ?_
    refine cz [(0, v), (3, .int .i64 ((2 * k + 1 : Nat) : Int)), (7, .bool false)] ⟨rfl, rfl, rfl, trivial⟩ (fun _ => ?_)
    refine rp [0] ?_
    refine k0 (wt_none rfl _) rfl (.bool false) (fun _ _ => exec_move (.const (.bool false)) (.inr rfl) _ rfl) ?_
    refine kend ?_
    refine th_n ?_
    refine re ?_
    refine rt1 rfl ?_
    exact ⟨by rw [show alike l = false from alike_of (by omega) hh4]; rfl, mm1.below⟩

end Go.Proofs.YtjlgbkkbflegcaaDoor
