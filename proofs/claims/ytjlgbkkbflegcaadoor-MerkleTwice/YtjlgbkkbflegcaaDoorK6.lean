/-
  MerkleTwice.
-/
import Derived.Test.YtjlgbkkbflegcaaDoorK5
import Derived.Test.YtjlgbkkbflegcaaDoorFk
namespace Go.Proofs.YtjlgbkkbflegcaaDoor
open Go.RowKit

set_option maxHeartbeats 1000000 in
theorem twice_law (v : Value) (l : List (List UInt8)) (w : World) (h32 : H32 l) (hv : Rc w.heap.size w v l.length (cH l)) (ht : Tabs w) (h2 : 2 ≤ w.heap.size) :
    Calls Tryd.prog 7 #[v] w fun e w' => e = .returned (.bool true) ∧ Below w.heap.size w w' := by
  have m0 := Mo.start w
  refine enter [v] 67 Tryd.func7 rfl Tryd.ntmps7 (Nat.le_of_ble_eq_true rfl) ?_
  refine sq ?_
  refine cz [(0, v)] ⟨rfl, trivial⟩ (fun _ => ?_)
  refine rp [0] ?_
  refine k0 (wt_none rfl _) rfl (.bool false) (fun _ _ => exec_move (.const (.bool false)) (.inr rfl) _ rfl) ?_
  refine kend ?_
  refine th_n ?_
  refine sq ?_
  refine sq ?_
  by_cases hm : l.length > 40
  · skip
    by_cases hlo0 : l.length < 2
    · skip
      refine cz [(0, v), (2, .bool false)] ⟨rfl, rfl, trivial⟩ (fun _ => ?_)
      refine rp [0, 1, 0, 0, 0, 0, 0, 0] ?_
      refine k0 (wt_none rfl _) rfl (v) (fun _ _ => exec_move (.tmp 0) (.inl rfl) _ rfl) ?_
      refine k1 (wt_none rfl _) rfl (.int .i64 ((l.length : Nat) : Int)) (x_len Tryd.sh.sl (.tmp 8) rfl (Rc.at hv m0) rfl) ?_
      refine k0 (wt_none rfl _) rfl (.bool true) (fun _ _ => x_gtr_t (.tmp 9) (.const (.int .i64 40)) _ _ rfl l.length 40 .i64 (by omega) rfl rfl) ?_
      refine k0 (wt_none rfl _) rfl (.bool true) (fun _ _ => exec_move (.tmp 10) (.inl rfl) _ rfl) ?_
      refine kn (wt_not rfl rfl rfl rfl) ?_
      refine kn (wt_not rfl rfl rfl rfl) ?_
      refine kn (wt_not rfl rfl rfl rfl) ?_
      refine k0 (wt_none rfl _) rfl (.bool true) (fun _ _ => x_pick (.tmp 11) (.const (.bool true)) (.tmp 14) rfl true _ rfl rfl) ?_
      refine kend ?_
      refine th_n ?_
      refine cdt rfl ?_
      refine sq ?_
      refine cz [(0, v), (2, .bool false), (15, .bool true)] ⟨rfl, rfl, rfl, trivial⟩ (fun _ => ?_)
      refine rp [2, 0] ?_
      refine kc (wt_none rfl _) rfl (x_cl0 rfl (by kernel_rfl)) (alive_any _ (ht.gr m0.below) (Nat.le_trans h2 m0.size)) ?_
      rintro _ ww1 ⟨rfl, mm2⟩
      have mm3 : Mo w ww1 [] := m0.gr mm2
      refine ⟨_, rfl, trivial, ?_⟩
      refine k0 (wt_none rfl _) rfl (.bool true) (fun _ _ => exec_move (.tmp 16) (.inr rfl) _ rfl) ?_
      refine kend ?_
      refine th_n ?_
      refine re ?_
      refine th_r ?_
      refine rt1 rfl ?_
      exact ⟨rfl, mm3.below⟩
    · skip
      refine cz [(0, v), (2, .bool false)] ⟨rfl, rfl, trivial⟩ (fun _ => ?_)
      refine rp [0, 1, 0, 0, 0, 0, 0, 0] ?_
      refine k0 (wt_none rfl _) rfl (v) (fun _ _ => exec_move (.tmp 0) (.inl rfl) _ rfl) ?_
      refine k1 (wt_none rfl _) rfl (.int .i64 ((l.length : Nat) : Int)) (x_len Tryd.sh.sl (.tmp 8) rfl (Rc.at hv m0) rfl) ?_
      refine k0 (wt_none rfl _) rfl (.bool true) (fun _ _ => x_gtr_t (.tmp 9) (.const (.int .i64 40)) _ _ rfl l.length 40 .i64 (by omega) rfl rfl) ?_
      refine k0 (wt_none rfl _) rfl (.bool true) (fun _ _ => exec_move (.tmp 10) (.inl rfl) _ rfl) ?_
      refine kn (wt_not rfl rfl rfl rfl) ?_
      refine kn (wt_not rfl rfl rfl rfl) ?_
      refine kn (wt_not rfl rfl rfl rfl) ?_
      refine k0 (wt_none rfl _) rfl (.bool true) (fun _ _ => x_pick (.tmp 11) (.const (.bool true)) (.tmp 14) rfl true _ rfl rfl) ?_
      refine kend ?_
      refine th_n ?_
      refine cdt rfl ?_
      refine sq ?_
      refine cz [(0, v), (2, .bool false), (15, .bool true)] ⟨rfl, rfl, rfl, trivial⟩ (fun _ => ?_)
      refine rp [2, 0] ?_
      refine kc (wt_none rfl _) rfl (x_cl0 rfl (by kernel_rfl)) (alive_any _ (ht.gr m0.below) (Nat.le_trans h2 m0.size)) ?_
      rintro _ ww4 ⟨rfl, mm5⟩
      have mm6 : Mo w ww4 [] := m0.gr mm5
      refine ⟨_, rfl, trivial, ?_⟩
      refine k0 (wt_none rfl _) rfl (.bool true) (fun _ _ => exec_move (.tmp 16) (.inr rfl) _ rfl) ?_
      refine kend ?_
      refine th_n ?_
      refine re ?_
      refine th_r ?_
      refine rt1 rfl ?_
      exact ⟨rfl, mm6.below⟩
  · skip
    by_cases hlo0 : l.length < 2
    · skip
      refine cz [(0, v), (2, .bool false)] ⟨rfl, rfl, trivial⟩ (fun _ => ?_)
      refine rp [0, 1, 0, 0, 0, 1, 0, 0] ?_
      refine k0 (wt_none rfl _) rfl (v) (fun _ _ => exec_move (.tmp 0) (.inl rfl) _ rfl) ?_
      refine k1 (wt_none rfl _) rfl (.int .i64 ((l.length : Nat) : Int)) (x_len Tryd.sh.sl (.tmp 8) rfl (Rc.at hv m0) rfl) ?_
      refine k0 (wt_none rfl _) rfl (.bool false) (fun _ _ => x_gtr_f (.tmp 9) (.const (.int .i64 40)) _ _ rfl l.length 40 .i64 (by omega) rfl rfl) ?_
      refine k0 (wt_none rfl _) rfl (.bool false) (fun _ _ => exec_move (.tmp 10) (.inl rfl) _ rfl) ?_
      refine k0 (wt_some rfl rfl rfl rfl) rfl (v) (fun _ _ => exec_move (.tmp 0) (.inl rfl) _ rfl) ?_
      refine k1 (wt_some rfl rfl rfl rfl) rfl (.int .i64 ((l.length : Nat) : Int)) (x_len Tryd.sh.sl (.tmp 12) rfl (Rc.at hv m0) rfl) ?_
      refine k0 (wt_some rfl rfl rfl rfl) rfl (.bool true) (fun _ _ => x_lss_t (.tmp 13) (.const (.int .i64 2)) _ _ rfl l.length 2 .i64 (by omega) rfl rfl) ?_
      refine k0 (wt_none rfl _) rfl (.bool true) (fun _ _ => x_pick (.tmp 11) (.const (.bool true)) (.tmp 14) rfl false _ rfl rfl) ?_
      refine kend ?_
      refine th_n ?_
      refine cdt rfl ?_
      refine sq ?_
      refine cz [(0, v), (2, .bool false), (15, .bool true)] ⟨rfl, rfl, rfl, trivial⟩ (fun _ => ?_)
      refine rp [2, 0] ?_
      refine kc (wt_none rfl _) rfl (x_cl0 rfl (by kernel_rfl)) (alive_any _ (ht.gr m0.below) (Nat.le_trans h2 m0.size)) ?_
      rintro _ ww7 ⟨rfl, mm8⟩
      have mm9 : Mo w ww7 [] := m0.gr mm8
      refine ⟨_, rfl, trivial, ?_⟩
      refine k0 (wt_none rfl _) rfl (.bool true) (fun _ _ => exec_move (.tmp 16) (.inr rfl) _ rfl) ?_
      refine kend ?_
      refine th_n ?_
      refine re ?_
      refine th_r ?_
      refine rt1 rfl ?_
      exact ⟨rfl, mm9.below⟩
    · skip
      refine cz [(0, v), (2, .bool false)] ⟨rfl, rfl, trivial⟩ (fun _ => ?_)
      refine rp [0, 1, 0, 0, 0, 1, 0, 0] ?_
      refine k0 (wt_none rfl _) rfl (v) (fun _ _ => exec_move (.tmp 0) (.inl rfl) _ rfl) ?_
      refine k1 (wt_none rfl _) rfl (.int .i64 ((l.length : Nat) : Int)) (x_len Tryd.sh.sl (.tmp 8) rfl (Rc.at hv m0) rfl) ?_
      refine k0 (wt_none rfl _) rfl (.bool false) (fun _ _ => x_gtr_f (.tmp 9) (.const (.int .i64 40)) _ _ rfl l.length 40 .i64 (by omega) rfl rfl) ?_
      refine k0 (wt_none rfl _) rfl (.bool false) (fun _ _ => exec_move (.tmp 10) (.inl rfl) _ rfl) ?_
      refine k0 (wt_some rfl rfl rfl rfl) rfl (v) (fun _ _ => exec_move (.tmp 0) (.inl rfl) _ rfl) ?_
      refine k1 (wt_some rfl rfl rfl rfl) rfl (.int .i64 ((l.length : Nat) : Int)) (x_len Tryd.sh.sl (.tmp 12) rfl (Rc.at hv m0) rfl) ?_
      refine k0 (wt_some rfl rfl rfl rfl) rfl (.bool false) (fun _ _ => x_lss_f (.tmp 13) (.const (.int .i64 2)) _ _ rfl l.length 2 .i64 (by omega) rfl rfl) ?_
      refine k0 (wt_none rfl _) rfl (.bool false) (fun _ _ => x_pick (.tmp 11) (.const (.bool true)) (.tmp 14) rfl false _ rfl rfl) ?_
      refine kend ?_
      refine th_n ?_
      refine cdf rfl ?_
      refine sk ?_
      refine th_n ?_
      refine sq ?_
      refine cz [(0, v), (2, .bool false), (15, .bool false)] ⟨rfl, rfl, rfl, trivial⟩ (fun _ => ?_)
      refine rp [0, 2, 0, 0, 0, 2, 2, 0] ?_
      refine k0 (wt_none rfl _) rfl (v) (fun _ _ => exec_move (.tmp 0) (.inl rfl) _ rfl) ?_
      refine kc (wt_none rfl _) rfl (x_cl1 (v0 := v) rfl rfl (by kernel_rfl)) (root_any v l _ h32 (Rc.at hv m0) (by omega) (ht.gr m0.below) (Nat.le_trans h2 m0.size)) ?_
      rintro _ ww10 ⟨rfl, mm11⟩
      have mm12 : Mo w ww10 [] := m0.gr mm11
      refine ⟨_, rfl, trivial, ?_⟩
      refine k0 (wt_none rfl _) rfl (.tuple #[.agg (cellsOf (rootS l)).toArray, .bool (dblS l)]) (fun _ _ => exec_move (.tmp 19) (.inl rfl) _ rfl) ?_
      refine k0 (wt_none rfl _) rfl (.agg (cellsOf (rootS l)).toArray) (fun _ _ => exec_extract (.tmp 17) 0 rfl [.agg (cellsOf (rootS l)).toArray, .bool (dblS l)] _ rfl rfl) ?_
      refine k0 (wt_none rfl _) rfl (.bool (dblS l)) (fun _ _ => exec_extract (.tmp 17) 1 rfl [.agg (cellsOf (rootS l)).toArray, .bool (dblS l)] _ rfl rfl) ?_
      refine k2 (wt_none rfl _) rfl (x_alc Tryd.ah rfl mm12 (cellsOf (List.replicate 32 0)) rfl) ?_
      rintro _ ww14 ⟨gg16, rfl, mm15⟩
      refine ⟨trivial, ?_⟩
      refine ks (wt_none rfl _) rfl rfl (x_sta (.tmp 3) (.tmp 20) rfl mm15 0 rfl 0 (cellsOf (rootS l)) (cellsOf (rootS l)) (at_size Tryd.ah (rootS_len h32)) (sta_len (by rfl : (cellsOf (List.replicate 32 0)).length = 32) (rootS_len h32)) (cellsOf_one _) (sta_all (by rfl : (cellsOf (List.replicate 32 0)).length = 32) (rootS_len h32)) rfl (.agg (cellsOf (rootS l)).toArray) rfl rfl) ?_
      rintro ww17 mm18
      have mm19 : Mo w ww17 [.arr gg16 24 (cellsOf (rootS l))] := mm18
      refine ⟨trivial, ?_⟩
      refine k0 (wt_none rfl _) rfl (.bool (dblS l)) (fun _ _ => exec_move (.tmp 21) (.inr rfl) _ rfl) ?_
      refine kend ?_
      refine th_n ?_
      refine sq ?_
      refine cz [(0, v), (2, .bool false), (3, .pointer (some ⟨gg16, 0, none⟩)), (4, .bool (dblS l)), (15, .bool false)] ⟨rfl, rfl, rfl, rfl, rfl, trivial⟩ (fun _ => ?_)
      refine rp [0, 1, 0] ?_
      refine k0 (wt_none rfl _) rfl (v) (fun _ _ => exec_move (.tmp 0) (.inl rfl) _ rfl) ?_
      refine k1 (wt_none rfl _) rfl (.int .i64 ((l.length : Nat) : Int)) (x_len Tryd.sh.sl (.tmp 22) rfl (Rc.at hv mm19) rfl) ?_
      refine k0 (wt_none rfl _) rfl (.int .i64 ((l.length : Nat) : Int)) (fun _ _ => exec_move (.tmp 23) (.inr rfl) _ rfl) ?_
      refine kend ?_
      refine th_n ?_
      refine sq ?_
      refine sq ?_
      by_cases hev : l.length % 2 = 0
      · skip
        refine cz [(0, v), (2, .bool false), (3, .pointer (some ⟨gg16, 0, none⟩)), (4, .bool (dblS l)), (5, .int .i64 ((l.length : Nat) : Int)), (15, .bool false)] ⟨rfl, rfl, rfl, rfl, rfl, rfl, trivial⟩ (fun _ => ?_)
        refine rp [0, 0, 0] ?_
        refine k0 (wt_none rfl _) rfl (.int .i64 ((l.length : Nat) : Int)) (fun _ _ => exec_move (.tmp 5) (.inl rfl) _ rfl) ?_
        refine k0 (wt_none rfl _) rfl (.int .i64 ((l.length % 2 : Nat) : Int)) (fun _ _ => x_rem (.tmp 24) (.const (.int .i64 2)) _ _ rfl l.length 2 (l.length % 2) .i64 (by exact ⟨rfl, by omega⟩) rfl rfl) ?_
        refine k0 (wt_none rfl _) rfl (.bool true) (fun _ _ => x_eql_t (.tmp 25) (.const (.int .i64 0)) _ _ rfl (l.length % 2) 0 .i64 (by omega) rfl rfl) ?_
        refine kend ?_
        refine th_n ?_
        refine cdt rfl ?_
        refine sq ?_
        by_cases heq : atH l (l.length - 1) = atH l (l.length - 2)
        · skip
          have hdb : dblS l = true := dblS_first (alike_last hev (by omega) heq) (by omega)
          refine cz [(0, v), (2, .bool false), (3, .pointer (some ⟨gg16, 0, none⟩)), (4, .bool (dblS l)), (5, .int .i64 ((l.length : Nat) : Int)), (15, .bool false), (26, .bool true)] ⟨rfl, rfl, rfl, rfl, rfl, rfl, rfl, trivial⟩ (fun _ => ?_)
          have mm21 := mm19.drew
          refine rq (fun w1 => Mo w w1 [.arr gg16 24 (cellsOf (rootS l))]) [2, 0, 0, 0, 0, 0, 0, 0, 0, 0, 0, 0, 0, 0, 0, 0, 0, 0] (by kernel_rfl) (by kernel_rfl) (by kernel_rfl) (mm21.sub (List.Sublist.cons_cons _ List.Sublist.slnil)) ?_
          refine kc (wt_none rfl _) rfl (x_cl0 rfl (by kernel_rfl)) (alive_any _ (ht.gr mm21.below) (Nat.le_trans h2 mm21.size)) ?_
          rintro _ ww22 ⟨rfl, mm23⟩
          have mm24 : Mo w ww22 [.arr gg16 24 (cellsOf (rootS l))] := mm21.gr mm23
          refine ⟨_, rfl, (mm24.sub (List.Sublist.cons_cons _ List.Sublist.slnil)), ?_⟩
          refine k0 (wt_none rfl _) rfl (.bool true) (fun _ _ => exec_move (.tmp 27) (.inl rfl) _ rfl) ?_
          refine k0 (wt_some rfl rfl rfl rfl) rfl (v) (fun _ _ => exec_move (.tmp 0) (.inl rfl) _ rfl) ?_
          refine k0 (wt_some rfl rfl rfl rfl) rfl (.int .i64 ((l.length : Nat) : Int)) (fun _ _ => exec_move (.tmp 5) (.inl rfl) _ rfl) ?_
          refine k0 (wt_some rfl rfl rfl rfl) rfl (.int .i64 ((l.length - 1 : Nat) : Int)) (fun _ _ => x_sub (.tmp 30) (.const (.int .i64 1)) _ _ rfl l.length 1 (l.length - 1) .i64 (by exact ⟨by omega, (show _ < 9223372036854775808 by omega)⟩) rfl rfl) ?_
          refine k0 (wt_some rfl rfl rfl rfl) rfl (eP v ((l.length - 1) * 32)) (fun _ hC => x_ep Tryd.sh (.tmp 29) (.tmp 31) rfl (Rc.at hv hC) (l.length - 1) .i64 ((l.length - 1) * 32) rfl (by omega) rfl _ rfl rfl) ?_
          refine k0 (wt_some rfl rfl rfl rfl) rfl (.agg (cellsOf (atH l (l.length - 1))).toArray) (fun _ hC => x_lda Tryd.ah (.tmp 32) rfl (Rc.at hv hC) ((l.length - 1) * 32) (by omega) (cellsOf (atH l (l.length - 1))) (by rw [cellsOf_length]; exact H32.at h32 (by omega)) (by decide) (cH_get h32 (by omega)) rfl) ?_
          refine k0 (wt_some rfl rfl rfl rfl) rfl (v) (fun _ _ => exec_move (.tmp 0) (.inl rfl) _ rfl) ?_
          refine k0 (wt_some rfl rfl rfl rfl) rfl (.int .i64 ((l.length : Nat) : Int)) (fun _ _ => exec_move (.tmp 5) (.inl rfl) _ rfl) ?_
          refine k0 (wt_some rfl rfl rfl rfl) rfl (.int .i64 ((l.length - 2 : Nat) : Int)) (fun _ _ => x_sub (.tmp 35) (.const (.int .i64 2)) _ _ rfl l.length 2 (l.length - 2) .i64 (by exact ⟨by omega, (show _ < 9223372036854775808 by omega)⟩) rfl rfl) ?_
          refine k0 (wt_some rfl rfl rfl rfl) rfl (eP v ((l.length - 2) * 32)) (fun _ hC => x_ep Tryd.sh (.tmp 34) (.tmp 36) rfl (Rc.at hv hC) (l.length - 2) .i64 ((l.length - 2) * 32) rfl (by omega) rfl _ rfl rfl) ?_
          refine k0 (wt_some rfl rfl rfl rfl) rfl (.agg (cellsOf (atH l (l.length - 2))).toArray) (fun _ hC => x_lda Tryd.ah (.tmp 37) rfl (Rc.at hv hC) ((l.length - 2) * 32) (by omega) (cellsOf (atH l (l.length - 2))) (by rw [cellsOf_length]; exact H32.at h32 (by omega)) (by decide) (cH_get h32 (by omega)) rfl) ?_
          refine k0 (wt_some rfl rfl rfl rfl) rfl (.bool false) (fun _ _ => x_nea Tryd.ah Tryd.u8 (by kernel_rfl) (.tmp 33) (.tmp 38) _ rfl (atH l (l.length - 1)) (atH l (l.length - 2)) (by rw [cellsOf_length]; exact H32.at h32 (by omega)) (by rw [cellsOf_length]; exact H32.at h32 (by omega)) true (decide_eq_true heq) rfl rfl) ?_
          refine k0 (wt_some rfl rfl rfl rfl) rfl (.bool false) (fun _ _ => exec_move (.tmp 39) (.inl rfl) _ rfl) ?_
          refine k0 (wt_some rfl rfl rfl rfl) rfl (.bool (dblS l)) (fun _ _ => exec_move (.tmp 4) (.inl rfl) _ rfl) ?_
          refine k0 (wt_some rfl rfl rfl rfl) rfl (.bool (dblS l)) (fun _ _ => x_pick (.tmp 40) (.const (.bool true)) (.tmp 41) rfl false _ rfl rfl) ?_
          refine k0 (wt_none rfl _) rfl (.bool (dblS l)) (fun _ _ => x_pick (.tmp 28) (.tmp 42) (.const (.bool false)) rfl true _ rfl rfl) ?_
          refine k0 (wt_none rfl _) rfl (.bool (dblS l)) (fun _ _ => exec_move (.tmp 43) (.inr rfl) _ rfl) ?_
          refine kend ?_
          refine th_n ?_
          refine re ?_
          refine th_r ?_
          refine rt1 rfl ?_
          exact ⟨by rw [hdb]; rfl, mm24.below⟩
        · skip
          skip
          refine cz [(0, v), (2, .bool false), (3, .pointer (some ⟨gg16, 0, none⟩)), (4, .bool (dblS l)), (5, .int .i64 ((l.length : Nat) : Int)), (15, .bool false), (26, .bool true)] ⟨rfl, rfl, rfl, rfl, rfl, rfl, rfl, trivial⟩ (fun _ => ?_)
          have mm26 := mm19.drew
          refine rq (fun w1 => Mo w w1 [.arr gg16 24 (cellsOf (rootS l))]) [2, 0, 0, 0, 0, 0, 0, 0, 0, 0, 0, 0, 0, 0, 0, 0, 0, 0] (by kernel_rfl) (by kernel_rfl) (by kernel_rfl) (mm26.sub (List.Sublist.cons_cons _ List.Sublist.slnil)) ?_
          refine kc (wt_none rfl _) rfl (x_cl0 rfl (by kernel_rfl)) (alive_any _ (ht.gr mm26.below) (Nat.le_trans h2 mm26.size)) ?_
          rintro _ ww27 ⟨rfl, mm28⟩
          have mm29 : Mo w ww27 [.arr gg16 24 (cellsOf (rootS l))] := mm26.gr mm28
          refine ⟨_, rfl, (mm29.sub (List.Sublist.cons_cons _ List.Sublist.slnil)), ?_⟩
          refine k0 (wt_none rfl _) rfl (.bool true) (fun _ _ => exec_move (.tmp 27) (.inl rfl) _ rfl) ?_
          refine k0 (wt_some rfl rfl rfl rfl) rfl (v) (fun _ _ => exec_move (.tmp 0) (.inl rfl) _ rfl) ?_
          refine k0 (wt_some rfl rfl rfl rfl) rfl (.int .i64 ((l.length : Nat) : Int)) (fun _ _ => exec_move (.tmp 5) (.inl rfl) _ rfl) ?_
          refine k0 (wt_some rfl rfl rfl rfl) rfl (.int .i64 ((l.length - 1 : Nat) : Int)) (fun _ _ => x_sub (.tmp 30) (.const (.int .i64 1)) _ _ rfl l.length 1 (l.length - 1) .i64 (by exact ⟨by omega, (show _ < 9223372036854775808 by omega)⟩) rfl rfl) ?_
          refine k0 (wt_some rfl rfl rfl rfl) rfl (eP v ((l.length - 1) * 32)) (fun _ hC => x_ep Tryd.sh (.tmp 29) (.tmp 31) rfl (Rc.at hv hC) (l.length - 1) .i64 ((l.length - 1) * 32) rfl (by omega) rfl _ rfl rfl) ?_
          refine k0 (wt_some rfl rfl rfl rfl) rfl (.agg (cellsOf (atH l (l.length - 1))).toArray) (fun _ hC => x_lda Tryd.ah (.tmp 32) rfl (Rc.at hv hC) ((l.length - 1) * 32) (by omega) (cellsOf (atH l (l.length - 1))) (by rw [cellsOf_length]; exact H32.at h32 (by omega)) (by decide) (cH_get h32 (by omega)) rfl) ?_
          refine k0 (wt_some rfl rfl rfl rfl) rfl (v) (fun _ _ => exec_move (.tmp 0) (.inl rfl) _ rfl) ?_
          refine k0 (wt_some rfl rfl rfl rfl) rfl (.int .i64 ((l.length : Nat) : Int)) (fun _ _ => exec_move (.tmp 5) (.inl rfl) _ rfl) ?_
          refine k0 (wt_some rfl rfl rfl rfl) rfl (.int .i64 ((l.length - 2 : Nat) : Int)) (fun _ _ => x_sub (.tmp 35) (.const (.int .i64 2)) _ _ rfl l.length 2 (l.length - 2) .i64 (by exact ⟨by omega, (show _ < 9223372036854775808 by omega)⟩) rfl rfl) ?_
          refine k0 (wt_some rfl rfl rfl rfl) rfl (eP v ((l.length - 2) * 32)) (fun _ hC => x_ep Tryd.sh (.tmp 34) (.tmp 36) rfl (Rc.at hv hC) (l.length - 2) .i64 ((l.length - 2) * 32) rfl (by omega) rfl _ rfl rfl) ?_
          refine k0 (wt_some rfl rfl rfl rfl) rfl (.agg (cellsOf (atH l (l.length - 2))).toArray) (fun _ hC => x_lda Tryd.ah (.tmp 37) rfl (Rc.at hv hC) ((l.length - 2) * 32) (by omega) (cellsOf (atH l (l.length - 2))) (by rw [cellsOf_length]; exact H32.at h32 (by omega)) (by decide) (cH_get h32 (by omega)) rfl) ?_
          refine k0 (wt_some rfl rfl rfl rfl) rfl (.bool true) (fun _ _ => x_nea Tryd.ah Tryd.u8 (by kernel_rfl) (.tmp 33) (.tmp 38) _ rfl (atH l (l.length - 1)) (atH l (l.length - 2)) (by rw [cellsOf_length]; exact H32.at h32 (by omega)) (by rw [cellsOf_length]; exact H32.at h32 (by omega)) false (decide_eq_false heq) rfl rfl) ?_
          refine k0 (wt_some rfl rfl rfl rfl) rfl (.bool true) (fun _ _ => exec_move (.tmp 39) (.inl rfl) _ rfl) ?_
          refine kn (wt_not rfl rfl rfl rfl) ?_
          refine k0 (wt_some rfl rfl rfl rfl) rfl (.bool true) (fun _ _ => x_pick (.tmp 40) (.const (.bool true)) (.tmp 41) rfl true _ rfl rfl) ?_
          refine k0 (wt_none rfl _) rfl (.bool true) (fun _ _ => x_pick (.tmp 28) (.tmp 42) (.const (.bool false)) rfl true _ rfl rfl) ?_
          refine k0 (wt_none rfl _) rfl (.bool true) (fun _ _ => exec_move (.tmp 43) (.inr rfl) _ rfl) ?_
          refine kend ?_
          refine th_n ?_
          refine re ?_
          refine th_r ?_
          refine rt1 rfl ?_
          exact ⟨rfl, mm29.below⟩
      · skip
        refine cz [(0, v), (2, .bool false), (3, .pointer (some ⟨gg16, 0, none⟩)), (4, .bool (dblS l)), (5, .int .i64 ((l.length : Nat) : Int)), (15, .bool false)] ⟨rfl, rfl, rfl, rfl, rfl, rfl, trivial⟩ (fun _ => ?_)
        refine rp [0, 0, 0] ?_
        refine k0 (wt_none rfl _) rfl (.int .i64 ((l.length : Nat) : Int)) (fun _ _ => exec_move (.tmp 5) (.inl rfl) _ rfl) ?_
        refine k0 (wt_none rfl _) rfl (.int .i64 ((l.length % 2 : Nat) : Int)) (fun _ _ => x_rem (.tmp 24) (.const (.int .i64 2)) _ _ rfl l.length 2 (l.length % 2) .i64 (by exact ⟨rfl, by omega⟩) rfl rfl) ?_
        refine k0 (wt_none rfl _) rfl (.bool false) (fun _ _ => x_eql_f (.tmp 25) (.const (.int .i64 0)) _ _ rfl (l.length % 2) 0 .i64 (by omega) rfl rfl) ?_
        refine kend ?_
        refine th_n ?_
        refine cdf rfl ?_
        refine sk ?_
        refine th_n ?_
        refine sq ?_
        have hodd : l.length % 2 = 1 := by omega
        have hlo : 1 < l.length := by omega
        refine cz [(0, v), (2, .bool false), (3, .pointer (some ⟨gg16, 0, none⟩)), (4, .bool (dblS l)), (5, .int .i64 ((l.length : Nat) : Int)), (15, .bool false), (26, .bool false)] ⟨rfl, rfl, rfl, rfl, rfl, rfl, rfl, trivial⟩ (fun _ => ?_)
        have mm30 := mm19.drew
        refine rf (fun w1 => Mo w w1 [.arr gg16 24 (cellsOf (rootS l))]) [2, 0, 2, 0, 0, 0, 0, 0, 2, 2, 2, 0, 0, 0, 2, 2, 0] (by kernel_rfl) (mm30.sub (List.Sublist.cons_cons _ List.Sublist.slnil)) ?_
        refine wa_first (i := 1) (by kernel_rfl) rfl (by kernel_rfl) ?_
        refine k0 (wt_none rfl _) rfl (v) (fun _ _ => exec_move (.tmp 0) (.inl rfl) _ rfl) ?_
        refine kend ?_
        refine wa_first (i := 3) (by kernel_rfl) rfl (by kernel_rfl) ?_
        refine k0 (wt_none rfl _) rfl (v) (fun _ _ => exec_move (.tmp 0) (.inl rfl) _ rfl) ?_
        refine kend ?_
        refine wa_first (i := 4) (by kernel_rfl) rfl (by kernel_rfl) ?_
        refine k0 (wt_none rfl _) rfl (.int .i64 ((l.length : Nat) : Int)) (fun _ _ => exec_move (.tmp 5) (.inl rfl) _ rfl) ?_
        refine kend ?_
        refine wa_first (i := 5) (by kernel_rfl) rfl (by kernel_rfl) ?_
        refine k0 (wt_none rfl _) rfl (.int .i64 ((l.length - 1 : Nat) : Int)) (fun _ _ => x_sub (.tmp 49) (.const (.int .i64 1)) _ _ rfl l.length 1 (l.length - 1) .i64 (by exact ⟨by omega, (show _ < 9223372036854775808 by omega)⟩) rfl rfl) ?_
        refine kend ?_
        refine wa_first (i := 6) (by kernel_rfl) rfl (by kernel_rfl) ?_
        refine k0 (wt_none rfl _) rfl (eP v ((l.length - 1) * 32)) (fun _ hC => x_ep Tryd.sh (.tmp 48) (.tmp 50) rfl (Rc.at hv hC) (l.length - 1) .i64 ((l.length - 1) * 32) rfl (by omega) rfl _ rfl rfl) ?_
        refine kend ?_
        refine wa_first (i := 7) (by kernel_rfl) rfl (by kernel_rfl) ?_
        refine k0 (wt_none rfl _) rfl (.agg (cellsOf (atH l (l.length - 1))).toArray) (fun _ hC => x_lda Tryd.ah (.tmp 51) rfl (Rc.at hv hC) ((l.length - 1) * 32) (by omega) (cellsOf (atH l (l.length - 1))) (by rw [cellsOf_length]; exact H32.at h32 (by omega)) (by decide) (cH_get h32 (by omega)) rfl) ?_
        refine kend ?_
        refine wa_fork 0 [8, 14] (by kernel_rfl) (by kernel_rfl) ⟨?_, ?_, ?_, trivial⟩
        · refine so (o := _) rfl ?_
          refine k2 (wt_none rfl _) rfl (x_bld Tryd.sh 0 _ rfl mm30 [] [] rfl (by decide) (fun _ h => absurd h List.not_mem_nil) rfl rfl) ?_
          rintro vv31 ww32 mm33
          refine ⟨(mm33.sub (List.Sublist.cons _ (List.Sublist.cons_cons _ List.Sublist.slnil))), ?_⟩
          refine kend ?_
          refine wa_fork 2 [8, 14] (by kernel_rfl) (by kernel_rfl) ⟨?_, ?_, ?_, trivial⟩
          · refine so (o := _) rfl ?_
            refine k2 (wt_none rfl _) rfl (x_app Tryd.sh (.tmp 45) (.tmp 46) rfl mm33 0 rfl rfl (Rc.at hv mm33) (cH_len h32 (by first | rfl | omega)) (cH_one _) (by omega) rfl) ?_
            rintro vv34 ww35 mm36
            have mm37 : Mo w ww35 [.own 24 32 vv34 l.length (cH l), .arr gg16 24 (cellsOf (rootS l))] := (by have h := mm36; rw [List.nil_append, Nat.zero_add] at h; exact h)
            refine ⟨(mm37.sub (List.Sublist.cons _ (List.Sublist.cons_cons _ List.Sublist.slnil))), ?_⟩
            refine kend ?_
            refine wa_fork 8 [14] (by kernel_rfl) (by kernel_rfl) ⟨?_, ?_, trivial⟩
            · refine so (o := _) rfl ?_
              refine k2 (wt_none rfl _) rfl (x_bld Tryd.sh 1 _ rfl mm37 (vH [atH l (l.length - 1)]) (cH [atH l (l.length - 1)]) rfl (by decide) (vH_size (H32.one (len_of (by rw [cellsOf_length]; exact H32.at h32 (by omega))))) (vH_flat [atH l (l.length - 1)]) rfl) ?_
              rintro vv38 ww39 mm40
              refine ⟨(mm40.sub (List.Sublist.cons _ (List.Sublist.cons _ (List.Sublist.cons_cons _ List.Sublist.slnil)))), ?_⟩
              refine kend ?_
              refine wa_fork 9 [14] (by kernel_rfl) (by kernel_rfl) ⟨?_, ?_, trivial⟩
              · refine so (o := _) rfl ?_
                refine k2 (wt_none rfl _) rfl (x_app Tryd.sh (.tmp 47) (.tmp 53) rfl mm40 1 rfl rfl (mm40.rc 0 rfl) (cH_len (H32.one (len_of (by rw [cellsOf_length]; exact H32.at h32 (by omega)))) rfl) (cH_one _) (by omega) rfl) ?_
                rintro vv41 ww42 mm43
                have mm44 : Mo w ww42 [.own 24 32 vv38 1 (cH ([atH l (l.length - 1)])), .own 24 32 vv41 (l.length + 1) (cH (l ++ ([atH l (l.length - 1)]))), .arr gg16 24 (cellsOf (rootS l))] := (by have h := mm43; rw [← cH_append] at h; exact h)
                refine ⟨(mm44.sub (List.Sublist.cons _ (List.Sublist.cons _ (List.Sublist.cons_cons _ List.Sublist.slnil)))), ?_⟩
                refine kend ?_
                refine wa_fork 10 [14] (by kernel_rfl) (by kernel_rfl) ⟨?_, ?_, trivial⟩
                · refine so (o := _) rfl ?_
                  refine kc (wt_none rfl _) rfl (x_cl1 (v0 := vv41) rfl rfl (by kernel_rfl)) (root_again vv41 l _ h32 (mm44.rc 1 rfl) hodd hlo (by omega) (ht.gr mm44.below) (Nat.le_trans h2 mm44.size)) ?_
                  rintro _ ww45 ⟨rfl, mm46⟩
                  have mm47 : Mo w ww45 [.own 24 32 vv38 1 (cH ([atH l (l.length - 1)])), .own 24 32 vv41 (l.length + 1) (cH (l ++ ([atH l (l.length - 1)]))), .arr gg16 24 (cellsOf (rootS l))] := mm44.gr mm46
                  refine ⟨_, rfl, (mm47.sub (List.Sublist.cons _ (List.Sublist.cons _ (List.Sublist.cons_cons _ List.Sublist.slnil)))), ?_⟩
                  refine kend ?_
                  refine wa_first (i := 11) (by kernel_rfl) rfl (by kernel_rfl) ?_
                  refine k0 (wt_none rfl _) rfl (.tuple #[.agg (cellsOf (rootS l)).toArray, .bool true]) (fun _ _ => exec_move (.tmp 55) (.inl rfl) _ rfl) ?_
                  refine kend ?_
                  refine wa_first (i := 12) (by kernel_rfl) rfl (by kernel_rfl) ?_
                  refine k0 (wt_none rfl _) rfl (.agg (cellsOf (rootS l)).toArray) (fun _ _ => exec_extract (.tmp 44) 0 rfl [.agg (cellsOf (rootS l)).toArray, .bool true] _ rfl rfl) ?_
                  refine kend ?_
                  refine wa_first (i := 13) (by kernel_rfl) rfl (by kernel_rfl) ?_
                  refine k0 (wt_none rfl _) rfl (.bool true) (fun _ _ => exec_extract (.tmp 44) 1 rfl [.agg (cellsOf (rootS l)).toArray, .bool true] _ rfl rfl) ?_
                  refine kend ?_
                  refine wa_fork 14 [] (by kernel_rfl) (by kernel_rfl) ⟨?_, trivial⟩
                  · refine so (o := _) rfl ?_
                    refine k2 (wt_none rfl _) rfl (x_alc Tryd.ah rfl mm47 (cellsOf (List.replicate 32 0)) rfl) ?_
                    rintro _ ww49 ⟨gg51, rfl, mm50⟩
                    refine ⟨(mm50.sub (List.Sublist.cons _ (List.Sublist.cons _ (List.Sublist.cons _ (List.Sublist.cons_cons _ List.Sublist.slnil))))), ?_⟩
                    refine kend ?_
                    refine wa_fork 15 [] (by kernel_rfl) (by kernel_rfl) ⟨?_, trivial⟩
                    · refine so (o := _) rfl ?_
                      refine ks (wt_none rfl _) rfl rfl (x_sta (.tmp 6) (.tmp 56) rfl mm50 0 rfl 0 (cellsOf (rootS l)) (cellsOf (rootS l)) (at_size Tryd.ah (rootS_len h32)) (sta_len (by rfl : (cellsOf (List.replicate 32 0)).length = 32) (rootS_len h32)) (cellsOf_one _) (sta_all (by rfl : (cellsOf (List.replicate 32 0)).length = 32) (rootS_len h32)) rfl (.agg (cellsOf (rootS l)).toArray) rfl rfl) ?_
                      rintro ww52 mm53
                      have mm54 : Mo w ww52 [.arr gg51 24 (cellsOf (rootS l)), .own 24 32 vv38 1 (cH ([atH l (l.length - 1)])), .own 24 32 vv41 (l.length + 1) (cH (l ++ ([atH l (l.length - 1)]))), .arr gg16 24 (cellsOf (rootS l))] := mm53
                      refine ⟨(mm54.sub (List.Sublist.cons _ (List.Sublist.cons _ (List.Sublist.cons _ (List.Sublist.cons_cons _ List.Sublist.slnil))))), ?_⟩
                      refine kend ?_
                      refine wa_first (i := 16) (by kernel_rfl) rfl (by kernel_rfl) ?_
                      refine k0 (wt_none rfl _) rfl (.bool true) (fun _ _ => exec_move (.tmp 57) (.inr rfl) _ rfl) ?_
                      refine kend ?_
                      refine wa_end (by kernel_rfl) ?_
                      refine th_n ?_
                      refine sq ?_
                      refine cz [(0, v), (2, .bool false), (3, .pointer (some ⟨gg16, 0, none⟩)), (4, .bool (dblS l)), (5, .int .i64 ((l.length : Nat) : Int)), (6, .pointer (some ⟨gg51, 0, none⟩)), (7, .bool true), (15, .bool false), (26, .bool false)] ⟨rfl, rfl, rfl, rfl, rfl, rfl, rfl, rfl, rfl, trivial⟩ (fun _ => ?_)
                      refine rp [2, 0, 1, 1, 0, 0, 0, 0, 0, 0] ?_
                      refine kc (wt_none rfl _) rfl (x_cl0 rfl (by kernel_rfl)) (alive_any _ (ht.gr mm54.below) (Nat.le_trans h2 mm54.size)) ?_
                      rintro _ ww55 ⟨rfl, mm56⟩
                      have mm57 : Mo w ww55 [.arr gg51 24 (cellsOf (rootS l)), .own 24 32 vv38 1 (cH ([atH l (l.length - 1)])), .own 24 32 vv41 (l.length + 1) (cH (l ++ ([atH l (l.length - 1)]))), .arr gg16 24 (cellsOf (rootS l))] := mm54.gr mm56
                      refine ⟨_, rfl, trivial, ?_⟩
                      refine k0 (wt_none rfl _) rfl (.bool true) (fun _ _ => exec_move (.tmp 58) (.inl rfl) _ rfl) ?_
                      refine k1 (wt_some rfl rfl rfl rfl) rfl (.agg (cellsOf (rootS l)).toArray) (exec_load_arr Tryd.ah (.tmp 6) rfl gg51 _ (rootS_len h32) rfl (mm57.arr 0 rfl)) ?_
                      refine k1 (wt_some rfl rfl rfl rfl) rfl (.agg (cellsOf (rootS l)).toArray) (exec_load_arr Tryd.ah (.tmp 3) rfl gg16 _ (rootS_len h32) rfl (mm57.arr 3 rfl)) ?_
                      refine k0 (wt_some rfl rfl rfl rfl) rfl (.bool true) (fun _ _ => x_eqa Tryd.ah Tryd.u8 (by kernel_rfl) (.tmp 60) (.tmp 61) _ rfl (rootS l) (rootS l) (rootS_len h32) (rootS_len h32) true (decide_eq_true rfl) rfl rfl) ?_
                      refine k0 (wt_none rfl _) rfl (.bool true) (fun _ _ => x_pick (.tmp 59) (.tmp 62) (.const (.bool false)) rfl true _ rfl rfl) ?_
                      refine k0 (wt_none rfl _) rfl (.bool true) (fun _ _ => exec_move (.tmp 63) (.inl rfl) _ rfl) ?_
                      refine k0 (wt_some rfl rfl rfl rfl) rfl (.bool true) (fun _ _ => exec_move (.tmp 7) (.inl rfl) _ rfl) ?_
                      refine k0 (wt_none rfl _) rfl (.bool true) (fun _ _ => x_pick (.tmp 64) (.tmp 65) (.const (.bool false)) rfl true _ rfl rfl) ?_
                      refine k0 (wt_none rfl _) rfl (.bool true) (fun _ _ => exec_move (.tmp 66) (.inr rfl) _ rfl) ?_
                      refine kend ?_
                      refine th_n ?_
                      refine re ?_
                      refine rt1 rfl ?_
                      exact ⟨rfl, mm57.below⟩
                · refine so (o := _) rfl ?_
                  refine k2 (wt_none rfl _) rfl (x_alc Tryd.ah rfl mm44 (cellsOf (List.replicate 32 0)) rfl) ?_
                  rintro _ ww59 ⟨gg61, rfl, mm60⟩
                  refine ⟨(mm60.sub (List.Sublist.cons _ (List.Sublist.cons _ (List.Sublist.cons _ (List.Sublist.cons_cons _ List.Sublist.slnil))))), ?_⟩
                  refine kend ?_
                  refine wa_fork 10 [] (by kernel_rfl) (by kernel_rfl) ⟨?_, trivial⟩
                  · refine so (o := _) rfl ?_
                    refine kc (wt_none rfl _) rfl (x_cl1 (v0 := vv41) rfl rfl (by kernel_rfl)) (root_again vv41 l _ h32 (mm60.rc 2 rfl) hodd hlo (by omega) (ht.gr mm60.below) (Nat.le_trans h2 mm60.size)) ?_
                    rintro _ ww62 ⟨rfl, mm63⟩
                    have mm64 : Mo w ww62 [.arr gg61 24 (cellsOf (List.replicate 32 0)), .own 24 32 vv38 1 (cH ([atH l (l.length - 1)])), .own 24 32 vv41 (l.length + 1) (cH (l ++ ([atH l (l.length - 1)]))), .arr gg16 24 (cellsOf (rootS l))] := mm60.gr mm63
                    refine ⟨_, rfl, (mm64.sub (List.Sublist.cons _ (List.Sublist.cons _ (List.Sublist.cons _ (List.Sublist.cons_cons _ List.Sublist.slnil))))), ?_⟩
                    refine kend ?_
                    refine wa_first (i := 11) (by kernel_rfl) rfl (by kernel_rfl) ?_
                    refine k0 (wt_none rfl _) rfl (.tuple #[.agg (cellsOf (rootS l)).toArray, .bool true]) (fun _ _ => exec_move (.tmp 55) (.inl rfl) _ rfl) ?_
                    refine kend ?_
                    refine wa_first (i := 12) (by kernel_rfl) rfl (by kernel_rfl) ?_
                    refine k0 (wt_none rfl _) rfl (.agg (cellsOf (rootS l)).toArray) (fun _ _ => exec_extract (.tmp 44) 0 rfl [.agg (cellsOf (rootS l)).toArray, .bool true] _ rfl rfl) ?_
                    refine kend ?_
                    refine wa_first (i := 13) (by kernel_rfl) rfl (by kernel_rfl) ?_
                    refine k0 (wt_none rfl _) rfl (.bool true) (fun _ _ => exec_extract (.tmp 44) 1 rfl [.agg (cellsOf (rootS l)).toArray, .bool true] _ rfl rfl) ?_
                    refine kend ?_
                    refine wa_fork 15 [] (by kernel_rfl) (by kernel_rfl) ⟨?_, trivial⟩
                    · refine so (o := _) rfl ?_
                      refine ks (wt_none rfl _) rfl rfl (x_sta (.tmp 6) (.tmp 56) rfl mm64 0 rfl 0 (cellsOf (rootS l)) (cellsOf (rootS l)) (at_size Tryd.ah (rootS_len h32)) (sta_len (by rfl : (cellsOf (List.replicate 32 0)).length = 32) (rootS_len h32)) (cellsOf_one _) (sta_all (by rfl : (cellsOf (List.replicate 32 0)).length = 32) (rootS_len h32)) rfl (.agg (cellsOf (rootS l)).toArray) rfl rfl) ?_
                      rintro ww65 mm66
                      have mm67 : Mo w ww65 [.arr gg61 24 (cellsOf (rootS l)), .own 24 32 vv38 1 (cH ([atH l (l.length - 1)])), .own 24 32 vv41 (l.length + 1) (cH (l ++ ([atH l (l.length - 1)]))), .arr gg16 24 (cellsOf (rootS l))] := mm66
                      refine ⟨(mm67.sub (List.Sublist.cons _ (List.Sublist.cons _ (List.Sublist.cons _ (List.Sublist.cons_cons _ List.Sublist.slnil))))), ?_⟩
                      refine kend ?_
                      refine wa_first (i := 16) (by kernel_rfl) rfl (by kernel_rfl) ?_
                      refine k0 (wt_none rfl _) rfl (.bool true) (fun _ _ => exec_move (.tmp 57) (.inr rfl) _ rfl) ?_
                      refine kend ?_
                      refine wa_end (by kernel_rfl) ?_
                      refine th_n ?_
                      refine sq ?_
                      refine cz [(0, v), (2, .bool false), (3, .pointer (some ⟨gg16, 0, none⟩)), (4, .bool (dblS l)), (5, .int .i64 ((l.length : Nat) : Int)), (6, .pointer (some ⟨gg61, 0, none⟩)), (7, .bool true), (15, .bool false), (26, .bool false)] ⟨rfl, rfl, rfl, rfl, rfl, rfl, rfl, rfl, rfl, trivial⟩ (fun _ => ?_)
                      refine rp [2, 0, 1, 1, 0, 0, 0, 0, 0, 0] ?_
                      refine kc (wt_none rfl _) rfl (x_cl0 rfl (by kernel_rfl)) (alive_any _ (ht.gr mm67.below) (Nat.le_trans h2 mm67.size)) ?_
                      rintro _ ww68 ⟨rfl, mm69⟩
                      have mm70 : Mo w ww68 [.arr gg61 24 (cellsOf (rootS l)), .own 24 32 vv38 1 (cH ([atH l (l.length - 1)])), .own 24 32 vv41 (l.length + 1) (cH (l ++ ([atH l (l.length - 1)]))), .arr gg16 24 (cellsOf (rootS l))] := mm67.gr mm69
                      refine ⟨_, rfl, trivial, ?_⟩
                      refine k0 (wt_none rfl _) rfl (.bool true) (fun _ _ => exec_move (.tmp 58) (.inl rfl) _ rfl) ?_
                      refine k1 (wt_some rfl rfl rfl rfl) rfl (.agg (cellsOf (rootS l)).toArray) (exec_load_arr Tryd.ah (.tmp 6) rfl gg61 _ (rootS_len h32) rfl (mm70.arr 0 rfl)) ?_
                      refine k1 (wt_some rfl rfl rfl rfl) rfl (.agg (cellsOf (rootS l)).toArray) (exec_load_arr Tryd.ah (.tmp 3) rfl gg16 _ (rootS_len h32) rfl (mm70.arr 3 rfl)) ?_
                      refine k0 (wt_some rfl rfl rfl rfl) rfl (.bool true) (fun _ _ => x_eqa Tryd.ah Tryd.u8 (by kernel_rfl) (.tmp 60) (.tmp 61) _ rfl (rootS l) (rootS l) (rootS_len h32) (rootS_len h32) true (decide_eq_true rfl) rfl rfl) ?_
                      refine k0 (wt_none rfl _) rfl (.bool true) (fun _ _ => x_pick (.tmp 59) (.tmp 62) (.const (.bool false)) rfl true _ rfl rfl) ?_
                      refine k0 (wt_none rfl _) rfl (.bool true) (fun _ _ => exec_move (.tmp 63) (.inl rfl) _ rfl) ?_
                      refine k0 (wt_some rfl rfl rfl rfl) rfl (.bool true) (fun _ _ => exec_move (.tmp 7) (.inl rfl) _ rfl) ?_
                      refine k0 (wt_none rfl _) rfl (.bool true) (fun _ _ => x_pick (.tmp 64) (.tmp 65) (.const (.bool false)) rfl true _ rfl rfl) ?_
                      refine k0 (wt_none rfl _) rfl (.bool true) (fun _ _ => exec_move (.tmp 66) (.inr rfl) _ rfl) ?_
                      refine kend ?_
                      refine th_n ?_
                      refine re ?_
                      refine rt1 rfl ?_
                      exact ⟨rfl, mm70.below⟩
              · refine so (o := _) rfl ?_
                refine k2 (wt_none rfl _) rfl (x_alc Tryd.ah rfl mm40 (cellsOf (List.replicate 32 0)) rfl) ?_
                rintro _ ww72 ⟨gg74, rfl, mm73⟩
                refine ⟨(mm73.sub (List.Sublist.cons _ (List.Sublist.cons _ (List.Sublist.cons _ (List.Sublist.cons_cons _ List.Sublist.slnil))))), ?_⟩
                refine kend ?_
                refine wa_fork 9 [] (by kernel_rfl) (by kernel_rfl) ⟨?_, trivial⟩
                · refine so (o := _) rfl ?_
                  refine k2 (wt_none rfl _) rfl (x_app Tryd.sh (.tmp 47) (.tmp 53) rfl mm73 2 rfl rfl (mm73.rc 1 rfl) (cH_len (H32.one (len_of (by rw [cellsOf_length]; exact H32.at h32 (by omega)))) rfl) (cH_one _) (by omega) rfl) ?_
                  rintro vv75 ww76 mm77
                  have mm78 : Mo w ww76 [.arr gg74 24 (cellsOf (List.replicate 32 0)), .own 24 32 vv38 1 (cH ([atH l (l.length - 1)])), .own 24 32 vv75 (l.length + 1) (cH (l ++ ([atH l (l.length - 1)]))), .arr gg16 24 (cellsOf (rootS l))] := (by have h := mm77; rw [← cH_append] at h; exact h)
                  refine ⟨(mm78.sub (List.Sublist.cons _ (List.Sublist.cons _ (List.Sublist.cons _ (List.Sublist.cons_cons _ List.Sublist.slnil))))), ?_⟩
                  refine kend ?_
                  refine wa_fork 10 [] (by kernel_rfl) (by kernel_rfl) ⟨?_, trivial⟩
                  · refine so (o := _) rfl ?_
                    refine kc (wt_none rfl _) rfl (x_cl1 (v0 := vv75) rfl rfl (by kernel_rfl)) (root_again vv75 l _ h32 (mm78.rc 2 rfl) hodd hlo (by omega) (ht.gr mm78.below) (Nat.le_trans h2 mm78.size)) ?_
                    rintro _ ww79 ⟨rfl, mm80⟩
                    have mm81 : Mo w ww79 [.arr gg74 24 (cellsOf (List.replicate 32 0)), .own 24 32 vv38 1 (cH ([atH l (l.length - 1)])), .own 24 32 vv75 (l.length + 1) (cH (l ++ ([atH l (l.length - 1)]))), .arr gg16 24 (cellsOf (rootS l))] := mm78.gr mm80
                    refine ⟨_, rfl, (mm81.sub (List.Sublist.cons _ (List.Sublist.cons _ (List.Sublist.cons _ (List.Sublist.cons_cons _ List.Sublist.slnil))))), ?_⟩
                    refine kend ?_
                    refine wa_first (i := 11) (by kernel_rfl) rfl (by kernel_rfl) ?_
                    refine k0 (wt_none rfl _) rfl (.tuple #[.agg (cellsOf (rootS l)).toArray, .bool true]) (fun _ _ => exec_move (.tmp 55) (.inl rfl) _ rfl) ?_
                    refine kend ?_
                    refine wa_first (i := 12) (by kernel_rfl) rfl (by kernel_rfl) ?_
                    refine k0 (wt_none rfl _) rfl (.agg (cellsOf (rootS l)).toArray) (fun _ _ => exec_extract (.tmp 44) 0 rfl [.agg (cellsOf (rootS l)).toArray, .bool true] _ rfl rfl) ?_
                    refine kend ?_
                    refine wa_first (i := 13) (by kernel_rfl) rfl (by kernel_rfl) ?_
                    refine k0 (wt_none rfl _) rfl (.bool true) (fun _ _ => exec_extract (.tmp 44) 1 rfl [.agg (cellsOf (rootS l)).toArray, .bool true] _ rfl rfl) ?_
                    refine kend ?_
                    refine wa_fork 15 [] (by kernel_rfl) (by kernel_rfl) ⟨?_, trivial⟩
                    · refine so (o := _) rfl ?_
                      refine ks (wt_none rfl _) rfl rfl (x_sta (.tmp 6) (.tmp 56) rfl mm81 0 rfl 0 (cellsOf (rootS l)) (cellsOf (rootS l)) (at_size Tryd.ah (rootS_len h32)) (sta_len (by rfl : (cellsOf (List.replicate 32 0)).length = 32) (rootS_len h32)) (cellsOf_one _) (sta_all (by rfl : (cellsOf (List.replicate 32 0)).length = 32) (rootS_len h32)) rfl (.agg (cellsOf (rootS l)).toArray) rfl rfl) ?_
                      rintro ww82 mm83
                      have mm84 : Mo w ww82 [.arr gg74 24 (cellsOf (rootS l)), .own 24 32 vv38 1 (cH ([atH l (l.length - 1)])), .own 24 32 vv75 (l.length + 1) (cH (l ++ ([atH l (l.length - 1)]))), .arr gg16 24 (cellsOf (rootS l))] := mm83
                      refine ⟨(mm84.sub (List.Sublist.cons _ (List.Sublist.cons _ (List.Sublist.cons _ (List.Sublist.cons_cons _ List.Sublist.slnil))))), ?_⟩
                      refine kend ?_
                      refine wa_first (i := 16) (by kernel_rfl) rfl (by kernel_rfl) ?_
                      refine k0 (wt_none rfl _) rfl (.bool true) (fun _ _ => exec_move (.tmp 57) (.inr rfl) _ rfl) ?_
                      refine kend ?_
                      refine wa_end (by kernel_rfl) ?_
                      refine th_n ?_
                      refine sq ?_
                      refine cz [(0, v), (2, .bool false), (3, .pointer (some ⟨gg16, 0, none⟩)), (4, .bool (dblS l)), (5, .int .i64 ((l.length : Nat) : Int)), (6, .pointer (some ⟨gg74, 0, none⟩)), (7, .bool true), (15, .bool false), (26, .bool false)] ⟨rfl, rfl, rfl, rfl, rfl, rfl, rfl, rfl, rfl, trivial⟩ (fun _ => ?_)
                      refine rp [2, 0, 1, 1, 0, 0, 0, 0, 0, 0] ?_
                      refine kc (wt_none rfl _) rfl (x_cl0 rfl (by kernel_rfl)) (alive_any _ (ht.gr mm84.below) (Nat.le_trans h2 mm84.size)) ?_
                      rintro _ ww85 ⟨rfl, mm86⟩
                      have mm87 : Mo w ww85 [.arr gg74 24 (cellsOf (rootS l)), .own 24 32 vv38 1 (cH ([atH l (l.length - 1)])), .own 24 32 vv75 (l.length + 1) (cH (l ++ ([atH l (l.length - 1)]))), .arr gg16 24 (cellsOf (rootS l))] := mm84.gr mm86
                      refine ⟨_, rfl, trivial, ?_⟩
                      refine k0 (wt_none rfl _) rfl (.bool true) (fun _ _ => exec_move (.tmp 58) (.inl rfl) _ rfl) ?_
                      refine k1 (wt_some rfl rfl rfl rfl) rfl (.agg (cellsOf (rootS l)).toArray) (exec_load_arr Tryd.ah (.tmp 6) rfl gg74 _ (rootS_len h32) rfl (mm87.arr 0 rfl)) ?_
                      refine k1 (wt_some rfl rfl rfl rfl) rfl (.agg (cellsOf (rootS l)).toArray) (exec_load_arr Tryd.ah (.tmp 3) rfl gg16 _ (rootS_len h32) rfl (mm87.arr 3 rfl)) ?_
                      refine k0 (wt_some rfl rfl rfl rfl) rfl (.bool true) (fun _ _ => x_eqa Tryd.ah Tryd.u8 (by kernel_rfl) (.tmp 60) (.tmp 61) _ rfl (rootS l) (rootS l) (rootS_len h32) (rootS_len h32) true (decide_eq_true rfl) rfl rfl) ?_
                      refine k0 (wt_none rfl _) rfl (.bool true) (fun _ _ => x_pick (.tmp 59) (.tmp 62) (.const (.bool false)) rfl true _ rfl rfl) ?_
                      refine k0 (wt_none rfl _) rfl (.bool true) (fun _ _ => exec_move (.tmp 63) (.inl rfl) _ rfl) ?_
                      refine k0 (wt_some rfl rfl rfl rfl) rfl (.bool true) (fun _ _ => exec_move (.tmp 7) (.inl rfl) _ rfl) ?_
                      refine k0 (wt_none rfl _) rfl (.bool true) (fun _ _ => x_pick (.tmp 64) (.tmp 65) (.const (.bool false)) rfl true _ rfl rfl) ?_
                      refine k0 (wt_none rfl _) rfl (.bool true) (fun _ _ => exec_move (.tmp 66) (.inr rfl) _ rfl) ?_
                      refine kend ?_
                      refine th_n ?_
                      refine re ?_
                      refine rt1 rfl ?_
                      exact ⟨rfl, mm87.below⟩
            · refine so (o := _) rfl ?_
              refine k2 (wt_none rfl _) rfl (x_alc Tryd.ah rfl mm37 (cellsOf (List.replicate 32 0)) rfl) ?_
              rintro _ ww89 ⟨gg91, rfl, mm90⟩
              refine ⟨(mm90.sub (List.Sublist.cons _ (List.Sublist.cons _ (List.Sublist.cons_cons _ List.Sublist.slnil)))), ?_⟩
              refine kend ?_
              refine wa_fork 8 [] (by kernel_rfl) (by kernel_rfl) ⟨?_, trivial⟩
              · refine so (o := _) rfl ?_
                refine k2 (wt_none rfl _) rfl (x_bld Tryd.sh 1 _ rfl mm90 (vH [atH l (l.length - 1)]) (cH [atH l (l.length - 1)]) rfl (by decide) (vH_size (H32.one (len_of (by rw [cellsOf_length]; exact H32.at h32 (by omega))))) (vH_flat [atH l (l.length - 1)]) rfl) ?_
                rintro vv92 ww93 mm94
                refine ⟨(mm94.sub (List.Sublist.cons _ (List.Sublist.cons _ (List.Sublist.cons _ (List.Sublist.cons_cons _ List.Sublist.slnil))))), ?_⟩
                refine kend ?_
                refine wa_fork 9 [] (by kernel_rfl) (by kernel_rfl) ⟨?_, trivial⟩
                · refine so (o := _) rfl ?_
                  refine k2 (wt_none rfl _) rfl (x_app Tryd.sh (.tmp 47) (.tmp 53) rfl mm94 2 rfl rfl (mm94.rc 0 rfl) (cH_len (H32.one (len_of (by rw [cellsOf_length]; exact H32.at h32 (by omega)))) rfl) (cH_one _) (by omega) rfl) ?_
                  rintro vv95 ww96 mm97
                  have mm98 : Mo w ww96 [.own 24 32 vv92 1 (cH ([atH l (l.length - 1)])), .arr gg91 24 (cellsOf (List.replicate 32 0)), .own 24 32 vv95 (l.length + 1) (cH (l ++ ([atH l (l.length - 1)]))), .arr gg16 24 (cellsOf (rootS l))] := (by have h := mm97; rw [← cH_append] at h; exact h)
                  refine ⟨(mm98.sub (List.Sublist.cons _ (List.Sublist.cons _ (List.Sublist.cons _ (List.Sublist.cons_cons _ List.Sublist.slnil))))), ?_⟩
                  refine kend ?_
                  refine wa_fork 10 [] (by kernel_rfl) (by kernel_rfl) ⟨?_, trivial⟩
                  · refine so (o := _) rfl ?_
                    refine kc (wt_none rfl _) rfl (x_cl1 (v0 := vv95) rfl rfl (by kernel_rfl)) (root_again vv95 l _ h32 (mm98.rc 2 rfl) hodd hlo (by omega) (ht.gr mm98.below) (Nat.le_trans h2 mm98.size)) ?_
                    rintro _ ww99 ⟨rfl, mm100⟩
                    have mm101 : Mo w ww99 [.own 24 32 vv92 1 (cH ([atH l (l.length - 1)])), .arr gg91 24 (cellsOf (List.replicate 32 0)), .own 24 32 vv95 (l.length + 1) (cH (l ++ ([atH l (l.length - 1)]))), .arr gg16 24 (cellsOf (rootS l))] := mm98.gr mm100
                    refine ⟨_, rfl, (mm101.sub (List.Sublist.cons _ (List.Sublist.cons _ (List.Sublist.cons _ (List.Sublist.cons_cons _ List.Sublist.slnil))))), ?_⟩
                    refine kend ?_
                    refine wa_first (i := 11) (by kernel_rfl) rfl (by kernel_rfl) ?_
                    refine k0 (wt_none rfl _) rfl (.tuple #[.agg (cellsOf (rootS l)).toArray, .bool true]) (fun _ _ => exec_move (.tmp 55) (.inl rfl) _ rfl) ?_
                    refine kend ?_
                    refine wa_first (i := 12) (by kernel_rfl) rfl (by kernel_rfl) ?_
                    refine k0 (wt_none rfl _) rfl (.agg (cellsOf (rootS l)).toArray) (fun _ _ => exec_extract (.tmp 44) 0 rfl [.agg (cellsOf (rootS l)).toArray, .bool true] _ rfl rfl) ?_
                    refine kend ?_
                    refine wa_first (i := 13) (by kernel_rfl) rfl (by kernel_rfl) ?_
                    refine k0 (wt_none rfl _) rfl (.bool true) (fun _ _ => exec_extract (.tmp 44) 1 rfl [.agg (cellsOf (rootS l)).toArray, .bool true] _ rfl rfl) ?_
                    refine kend ?_
                    refine wa_fork 15 [] (by kernel_rfl) (by kernel_rfl) ⟨?_, trivial⟩
                    · refine so (o := _) rfl ?_
                      refine ks (wt_none rfl _) rfl rfl (x_sta (.tmp 6) (.tmp 56) rfl mm101 1 rfl 0 (cellsOf (rootS l)) (cellsOf (rootS l)) (at_size Tryd.ah (rootS_len h32)) (sta_len (by rfl : (cellsOf (List.replicate 32 0)).length = 32) (rootS_len h32)) (cellsOf_one _) (sta_all (by rfl : (cellsOf (List.replicate 32 0)).length = 32) (rootS_len h32)) rfl (.agg (cellsOf (rootS l)).toArray) rfl rfl) ?_
                      rintro ww102 mm103
                      have mm104 : Mo w ww102 [.own 24 32 vv92 1 (cH ([atH l (l.length - 1)])), .arr gg91 24 (cellsOf (rootS l)), .own 24 32 vv95 (l.length + 1) (cH (l ++ ([atH l (l.length - 1)]))), .arr gg16 24 (cellsOf (rootS l))] := mm103
                      refine ⟨(mm104.sub (List.Sublist.cons _ (List.Sublist.cons _ (List.Sublist.cons _ (List.Sublist.cons_cons _ List.Sublist.slnil))))), ?_⟩
                      refine kend ?_
                      refine wa_first (i := 16) (by kernel_rfl) rfl (by kernel_rfl) ?_
                      refine k0 (wt_none rfl _) rfl (.bool true) (fun _ _ => exec_move (.tmp 57) (.inr rfl) _ rfl) ?_
                      refine kend ?_
                      refine wa_end (by kernel_rfl) ?_
                      refine th_n ?_
                      refine sq ?_
                      refine cz [(0, v), (2, .bool false), (3, .pointer (some ⟨gg16, 0, none⟩)), (4, .bool (dblS l)), (5, .int .i64 ((l.length : Nat) : Int)), (6, .pointer (some ⟨gg91, 0, none⟩)), (7, .bool true), (15, .bool false), (26, .bool false)] ⟨rfl, rfl, rfl, rfl, rfl, rfl, rfl, rfl, rfl, trivial⟩ (fun _ => ?_)
                      refine rp [2, 0, 1, 1, 0, 0, 0, 0, 0, 0] ?_
                      refine kc (wt_none rfl _) rfl (x_cl0 rfl (by kernel_rfl)) (alive_any _ (ht.gr mm104.below) (Nat.le_trans h2 mm104.size)) ?_
                      rintro _ ww105 ⟨rfl, mm106⟩
                      have mm107 : Mo w ww105 [.own 24 32 vv92 1 (cH ([atH l (l.length - 1)])), .arr gg91 24 (cellsOf (rootS l)), .own 24 32 vv95 (l.length + 1) (cH (l ++ ([atH l (l.length - 1)]))), .arr gg16 24 (cellsOf (rootS l))] := mm104.gr mm106
                      refine ⟨_, rfl, trivial, ?_⟩
                      refine k0 (wt_none rfl _) rfl (.bool true) (fun _ _ => exec_move (.tmp 58) (.inl rfl) _ rfl) ?_
                      refine k1 (wt_some rfl rfl rfl rfl) rfl (.agg (cellsOf (rootS l)).toArray) (exec_load_arr Tryd.ah (.tmp 6) rfl gg91 _ (rootS_len h32) rfl (mm107.arr 1 rfl)) ?_
                      refine k1 (wt_some rfl rfl rfl rfl) rfl (.agg (cellsOf (rootS l)).toArray) (exec_load_arr Tryd.ah (.tmp 3) rfl gg16 _ (rootS_len h32) rfl (mm107.arr 3 rfl)) ?_
                      refine k0 (wt_some rfl rfl rfl rfl) rfl (.bool true) (fun _ _ => x_eqa Tryd.ah Tryd.u8 (by kernel_rfl) (.tmp 60) (.tmp 61) _ rfl (rootS l) (rootS l) (rootS_len h32) (rootS_len h32) true (decide_eq_true rfl) rfl rfl) ?_
                      refine k0 (wt_none rfl _) rfl (.bool true) (fun _ _ => x_pick (.tmp 59) (.tmp 62) (.const (.bool false)) rfl true _ rfl rfl) ?_
                      refine k0 (wt_none rfl _) rfl (.bool true) (fun _ _ => exec_move (.tmp 63) (.inl rfl) _ rfl) ?_
                      refine k0 (wt_some rfl rfl rfl rfl) rfl (.bool true) (fun _ _ => exec_move (.tmp 7) (.inl rfl) _ rfl) ?_
                      refine k0 (wt_none rfl _) rfl (.bool true) (fun _ _ => x_pick (.tmp 64) (.tmp 65) (.const (.bool false)) rfl true _ rfl rfl) ?_
                      refine k0 (wt_none rfl _) rfl (.bool true) (fun _ _ => exec_move (.tmp 66) (.inr rfl) _ rfl) ?_
                      refine kend ?_
                      refine th_n ?_
                      refine re ?_
                      refine rt1 rfl ?_
                      exact ⟨rfl, mm107.below⟩
          · refine so (o := _) rfl ?_
            refine k2 (wt_none rfl _) rfl (x_bld Tryd.sh 1 _ rfl mm33 (vH [atH l (l.length - 1)]) (cH [atH l (l.length - 1)]) rfl (by decide) (vH_size (H32.one (len_of (by rw [cellsOf_length]; exact H32.at h32 (by omega))))) (vH_flat [atH l (l.length - 1)]) rfl) ?_
            rintro vv108 ww109 mm110
            refine ⟨(mm110.sub (List.Sublist.cons _ (List.Sublist.cons _ (List.Sublist.cons_cons _ List.Sublist.slnil)))), ?_⟩
            refine kend ?_
            refine wa_fork 2 [14] (by kernel_rfl) (by kernel_rfl) ⟨?_, ?_, trivial⟩
            · refine so (o := _) rfl ?_
              refine k2 (wt_none rfl _) rfl (x_app Tryd.sh (.tmp 45) (.tmp 46) rfl mm110 1 rfl rfl (Rc.at hv mm110) (cH_len h32 (by first | rfl | omega)) (cH_one _) (by omega) rfl) ?_
              rintro vv111 ww112 mm113
              have mm114 : Mo w ww112 [.own 24 32 vv108 1 (cH ([atH l (l.length - 1)])), .own 24 32 vv111 l.length (cH l), .arr gg16 24 (cellsOf (rootS l))] := (by have h := mm113; rw [List.nil_append, Nat.zero_add] at h; exact h)
              refine ⟨(mm114.sub (List.Sublist.cons _ (List.Sublist.cons _ (List.Sublist.cons_cons _ List.Sublist.slnil)))), ?_⟩
              refine kend ?_
              refine wa_fork 9 [14] (by kernel_rfl) (by kernel_rfl) ⟨?_, ?_, trivial⟩
              · refine so (o := _) rfl ?_
                refine k2 (wt_none rfl _) rfl (x_app Tryd.sh (.tmp 47) (.tmp 53) rfl mm114 1 rfl rfl (mm114.rc 0 rfl) (cH_len (H32.one (len_of (by rw [cellsOf_length]; exact H32.at h32 (by omega)))) rfl) (cH_one _) (by omega) rfl) ?_
                rintro vv115 ww116 mm117
                have mm118 : Mo w ww116 [.own 24 32 vv108 1 (cH ([atH l (l.length - 1)])), .own 24 32 vv115 (l.length + 1) (cH (l ++ ([atH l (l.length - 1)]))), .arr gg16 24 (cellsOf (rootS l))] := (by have h := mm117; rw [← cH_append] at h; exact h)
                refine ⟨(mm118.sub (List.Sublist.cons _ (List.Sublist.cons _ (List.Sublist.cons_cons _ List.Sublist.slnil)))), ?_⟩
                refine kend ?_
                refine wa_fork 10 [14] (by kernel_rfl) (by kernel_rfl) ⟨?_, ?_, trivial⟩
                · refine so (o := _) rfl ?_
                  refine kc (wt_none rfl _) rfl (x_cl1 (v0 := vv115) rfl rfl (by kernel_rfl)) (root_again vv115 l _ h32 (mm118.rc 1 rfl) hodd hlo (by omega) (ht.gr mm118.below) (Nat.le_trans h2 mm118.size)) ?_
                  rintro _ ww119 ⟨rfl, mm120⟩
                  have mm121 : Mo w ww119 [.own 24 32 vv108 1 (cH ([atH l (l.length - 1)])), .own 24 32 vv115 (l.length + 1) (cH (l ++ ([atH l (l.length - 1)]))), .arr gg16 24 (cellsOf (rootS l))] := mm118.gr mm120
                  refine ⟨_, rfl, (mm121.sub (List.Sublist.cons _ (List.Sublist.cons _ (List.Sublist.cons_cons _ List.Sublist.slnil)))), ?_⟩
                  refine kend ?_
                  refine wa_first (i := 11) (by kernel_rfl) rfl (by kernel_rfl) ?_
                  refine k0 (wt_none rfl _) rfl (.tuple #[.agg (cellsOf (rootS l)).toArray, .bool true]) (fun _ _ => exec_move (.tmp 55) (.inl rfl) _ rfl) ?_
                  refine kend ?_
                  refine wa_first (i := 12) (by kernel_rfl) rfl (by kernel_rfl) ?_
                  refine k0 (wt_none rfl _) rfl (.agg (cellsOf (rootS l)).toArray) (fun _ _ => exec_extract (.tmp 44) 0 rfl [.agg (cellsOf (rootS l)).toArray, .bool true] _ rfl rfl) ?_
                  refine kend ?_
                  refine wa_first (i := 13) (by kernel_rfl) rfl (by kernel_rfl) ?_
                  refine k0 (wt_none rfl _) rfl (.bool true) (fun _ _ => exec_extract (.tmp 44) 1 rfl [.agg (cellsOf (rootS l)).toArray, .bool true] _ rfl rfl) ?_
                  refine kend ?_
                  refine wa_fork 14 [] (by kernel_rfl) (by kernel_rfl) ⟨?_, trivial⟩
                  · refine so (o := _) rfl ?_
                    refine k2 (wt_none rfl _) rfl (x_alc Tryd.ah rfl mm121 (cellsOf (List.replicate 32 0)) rfl) ?_
                    rintro _ ww123 ⟨gg125, rfl, mm124⟩
                    refine ⟨(mm124.sub (List.Sublist.cons _ (List.Sublist.cons _ (List.Sublist.cons _ (List.Sublist.cons_cons _ List.Sublist.slnil))))), ?_⟩
                    refine kend ?_
                    refine wa_fork 15 [] (by kernel_rfl) (by kernel_rfl) ⟨?_, trivial⟩
                    · refine so (o := _) rfl ?_
                      refine ks (wt_none rfl _) rfl rfl (x_sta (.tmp 6) (.tmp 56) rfl mm124 0 rfl 0 (cellsOf (rootS l)) (cellsOf (rootS l)) (at_size Tryd.ah (rootS_len h32)) (sta_len (by rfl : (cellsOf (List.replicate 32 0)).length = 32) (rootS_len h32)) (cellsOf_one _) (sta_all (by rfl : (cellsOf (List.replicate 32 0)).length = 32) (rootS_len h32)) rfl (.agg (cellsOf (rootS l)).toArray) rfl rfl) ?_
                      rintro ww126 mm127
                      have mm128 : Mo w ww126 [.arr gg125 24 (cellsOf (rootS l)), .own 24 32 vv108 1 (cH ([atH l (l.length - 1)])), .own 24 32 vv115 (l.length + 1) (cH (l ++ ([atH l (l.length - 1)]))), .arr gg16 24 (cellsOf (rootS l))] := mm127
                      refine ⟨(mm128.sub (List.Sublist.cons _ (List.Sublist.cons _ (List.Sublist.cons _ (List.Sublist.cons_cons _ List.Sublist.slnil))))), ?_⟩
                      refine kend ?_
                      refine wa_first (i := 16) (by kernel_rfl) rfl (by kernel_rfl) ?_
                      refine k0 (wt_none rfl _) rfl (.bool true) (fun _ _ => exec_move (.tmp 57) (.inr rfl) _ rfl) ?_
                      refine kend ?_
                      refine wa_end (by kernel_rfl) ?_
                      refine th_n ?_
                      refine sq ?_
                      refine cz [(0, v), (2, .bool false), (3, .pointer (some ⟨gg16, 0, none⟩)), (4, .bool (dblS l)), (5, .int .i64 ((l.length : Nat) : Int)), (6, .pointer (some ⟨gg125, 0, none⟩)), (7, .bool true), (15, .bool false), (26, .bool false)] ⟨rfl, rfl, rfl, rfl, rfl, rfl, rfl, rfl, rfl, trivial⟩ (fun _ => ?_)
                      refine rp [2, 0, 1, 1, 0, 0, 0, 0, 0, 0] ?_
                      refine kc (wt_none rfl _) rfl (x_cl0 rfl (by kernel_rfl)) (alive_any _ (ht.gr mm128.below) (Nat.le_trans h2 mm128.size)) ?_
                      rintro _ ww129 ⟨rfl, mm130⟩
                      have mm131 : Mo w ww129 [.arr gg125 24 (cellsOf (rootS l)), .own 24 32 vv108 1 (cH ([atH l (l.length - 1)])), .own 24 32 vv115 (l.length + 1) (cH (l ++ ([atH l (l.length - 1)]))), .arr gg16 24 (cellsOf (rootS l))] := mm128.gr mm130
                      refine ⟨_, rfl, trivial, ?_⟩
                      refine k0 (wt_none rfl _) rfl (.bool true) (fun _ _ => exec_move (.tmp 58) (.inl rfl) _ rfl) ?_
                      refine k1 (wt_some rfl rfl rfl rfl) rfl (.agg (cellsOf (rootS l)).toArray) (exec_load_arr Tryd.ah (.tmp 6) rfl gg125 _ (rootS_len h32) rfl (mm131.arr 0 rfl)) ?_
                      refine k1 (wt_some rfl rfl rfl rfl) rfl (.agg (cellsOf (rootS l)).toArray) (exec_load_arr Tryd.ah (.tmp 3) rfl gg16 _ (rootS_len h32) rfl (mm131.arr 3 rfl)) ?_
                      refine k0 (wt_some rfl rfl rfl rfl) rfl (.bool true) (fun _ _ => x_eqa Tryd.ah Tryd.u8 (by kernel_rfl) (.tmp 60) (.tmp 61) _ rfl (rootS l) (rootS l) (rootS_len h32) (rootS_len h32) true (decide_eq_true rfl) rfl rfl) ?_
                      refine k0 (wt_none rfl _) rfl (.bool true) (fun _ _ => x_pick (.tmp 59) (.tmp 62) (.const (.bool false)) rfl true _ rfl rfl) ?_
                      refine k0 (wt_none rfl _) rfl (.bool true) (fun _ _ => exec_move (.tmp 63) (.inl rfl) _ rfl) ?_
                      refine k0 (wt_some rfl rfl rfl rfl) rfl (.bool true) (fun _ _ => exec_move (.tmp 7) (.inl rfl) _ rfl) ?_
                      refine k0 (wt_none rfl _) rfl (.bool true) (fun _ _ => x_pick (.tmp 64) (.tmp 65) (.const (.bool false)) rfl true _ rfl rfl) ?_
                      refine k0 (wt_none rfl _) rfl (.bool true) (fun _ _ => exec_move (.tmp 66) (.inr rfl) _ rfl) ?_
                      refine kend ?_
                      refine th_n ?_
                      refine re ?_
                      refine rt1 rfl ?_
                      exact ⟨rfl, mm131.below⟩
                · refine so (o := _) rfl ?_
                  refine k2 (wt_none rfl _) rfl (x_alc Tryd.ah rfl mm118 (cellsOf (List.replicate 32 0)) rfl) ?_
                  rintro _ ww133 ⟨gg135, rfl, mm134⟩
                  refine ⟨(mm134.sub (List.Sublist.cons _ (List.Sublist.cons _ (List.Sublist.cons _ (List.Sublist.cons_cons _ List.Sublist.slnil))))), ?_⟩
                  refine kend ?_
                  refine wa_fork 10 [] (by kernel_rfl) (by kernel_rfl) ⟨?_, trivial⟩
                  · refine so (o := _) rfl ?_
                    refine kc (wt_none rfl _) rfl (x_cl1 (v0 := vv115) rfl rfl (by kernel_rfl)) (root_again vv115 l _ h32 (mm134.rc 2 rfl) hodd hlo (by omega) (ht.gr mm134.below) (Nat.le_trans h2 mm134.size)) ?_
                    rintro _ ww136 ⟨rfl, mm137⟩
                    have mm138 : Mo w ww136 [.arr gg135 24 (cellsOf (List.replicate 32 0)), .own 24 32 vv108 1 (cH ([atH l (l.length - 1)])), .own 24 32 vv115 (l.length + 1) (cH (l ++ ([atH l (l.length - 1)]))), .arr gg16 24 (cellsOf (rootS l))] := mm134.gr mm137
                    refine ⟨_, rfl, (mm138.sub (List.Sublist.cons _ (List.Sublist.cons _ (List.Sublist.cons _ (List.Sublist.cons_cons _ List.Sublist.slnil))))), ?_⟩
                    refine kend ?_
                    refine wa_first (i := 11) (by kernel_rfl) rfl (by kernel_rfl) ?_
                    refine k0 (wt_none rfl _) rfl (.tuple #[.agg (cellsOf (rootS l)).toArray, .bool true]) (fun _ _ => exec_move (.tmp 55) (.inl rfl) _ rfl) ?_
                    refine kend ?_
                    refine wa_first (i := 12) (by kernel_rfl) rfl (by kernel_rfl) ?_
                    refine k0 (wt_none rfl _) rfl (.agg (cellsOf (rootS l)).toArray) (fun _ _ => exec_extract (.tmp 44) 0 rfl [.agg (cellsOf (rootS l)).toArray, .bool true] _ rfl rfl) ?_
                    refine kend ?_
                    refine wa_first (i := 13) (by kernel_rfl) rfl (by kernel_rfl) ?_
                    refine k0 (wt_none rfl _) rfl (.bool true) (fun _ _ => exec_extract (.tmp 44) 1 rfl [.agg (cellsOf (rootS l)).toArray, .bool true] _ rfl rfl) ?_
                    refine kend ?_
                    refine wa_fork 15 [] (by kernel_rfl) (by kernel_rfl) ⟨?_, trivial⟩
                    · refine so (o := _) rfl ?_
                      refine ks (wt_none rfl _) rfl rfl (x_sta (.tmp 6) (.tmp 56) rfl mm138 0 rfl 0 (cellsOf (rootS l)) (cellsOf (rootS l)) (at_size Tryd.ah (rootS_len h32)) (sta_len (by rfl : (cellsOf (List.replicate 32 0)).length = 32) (rootS_len h32)) (cellsOf_one _) (sta_all (by rfl : (cellsOf (List.replicate 32 0)).length = 32) (rootS_len h32)) rfl (.agg (cellsOf (rootS l)).toArray) rfl rfl) ?_
                      rintro ww139 mm140
                      have mm141 : Mo w ww139 [.arr gg135 24 (cellsOf (rootS l)), .own 24 32 vv108 1 (cH ([atH l (l.length - 1)])), .own 24 32 vv115 (l.length + 1) (cH (l ++ ([atH l (l.length - 1)]))), .arr gg16 24 (cellsOf (rootS l))] := mm140
                      refine ⟨(mm141.sub (List.Sublist.cons _ (List.Sublist.cons _ (List.Sublist.cons _ (List.Sublist.cons_cons _ List.Sublist.slnil))))), ?_⟩
                      refine kend ?_
                      refine wa_first (i := 16) (by kernel_rfl) rfl (by kernel_rfl) ?_
                      refine k0 (wt_none rfl _) rfl (.bool true) (fun _ _ => exec_move (.tmp 57) (.inr rfl) _ rfl) ?_
                      refine kend ?_
                      refine wa_end (by kernel_rfl) ?_
                      refine th_n ?_
                      refine sq ?_
                      refine cz [(0, v), (2, .bool false), (3, .pointer (some ⟨gg16, 0, none⟩)), (4, .bool (dblS l)), (5, .int .i64 ((l.length : Nat) : Int)), (6, .pointer (some ⟨gg135, 0, none⟩)), (7, .bool true), (15, .bool false), (26, .bool false)] ⟨rfl, rfl, rfl, rfl, rfl, rfl, rfl, rfl, rfl, trivial⟩ (fun _ => ?_)
                      refine rp [2, 0, 1, 1, 0, 0, 0, 0, 0, 0] ?_
                      refine kc (wt_none rfl _) rfl (x_cl0 rfl (by kernel_rfl)) (alive_any _ (ht.gr mm141.below) (Nat.le_trans h2 mm141.size)) ?_
                      rintro _ ww142 ⟨rfl, mm143⟩
                      have mm144 : Mo w ww142 [.arr gg135 24 (cellsOf (rootS l)), .own 24 32 vv108 1 (cH ([atH l (l.length - 1)])), .own 24 32 vv115 (l.length + 1) (cH (l ++ ([atH l (l.length - 1)]))), .arr gg16 24 (cellsOf (rootS l))] := mm141.gr mm143
                      refine ⟨_, rfl, trivial, ?_⟩
                      refine k0 (wt_none rfl _) rfl (.bool true) (fun _ _ => exec_move (.tmp 58) (.inl rfl) _ rfl) ?_
                      refine k1 (wt_some rfl rfl rfl rfl) rfl (.agg (cellsOf (rootS l)).toArray) (exec_load_arr Tryd.ah (.tmp 6) rfl gg135 _ (rootS_len h32) rfl (mm144.arr 0 rfl)) ?_
                      refine k1 (wt_some rfl rfl rfl rfl) rfl (.agg (cellsOf (rootS l)).toArray) (exec_load_arr Tryd.ah (.tmp 3) rfl gg16 _ (rootS_len h32) rfl (mm144.arr 3 rfl)) ?_
                      refine k0 (wt_some rfl rfl rfl rfl) rfl (.bool true) (fun _ _ => x_eqa Tryd.ah Tryd.u8 (by kernel_rfl) (.tmp 60) (.tmp 61) _ rfl (rootS l) (rootS l) (rootS_len h32) (rootS_len h32) true (decide_eq_true rfl) rfl rfl) ?_
                      refine k0 (wt_none rfl _) rfl (.bool true) (fun _ _ => x_pick (.tmp 59) (.tmp 62) (.const (.bool false)) rfl true _ rfl rfl) ?_
                      refine k0 (wt_none rfl _) rfl (.bool true) (fun _ _ => exec_move (.tmp 63) (.inl rfl) _ rfl) ?_
                      refine k0 (wt_some rfl rfl rfl rfl) rfl (.bool true) (fun _ _ => exec_move (.tmp 7) (.inl rfl) _ rfl) ?_
                      refine k0 (wt_none rfl _) rfl (.bool true) (fun _ _ => x_pick (.tmp 64) (.tmp 65) (.const (.bool false)) rfl true _ rfl rfl) ?_
                      refine k0 (wt_none rfl _) rfl (.bool true) (fun _ _ => exec_move (.tmp 66) (.inr rfl) _ rfl) ?_
                      refine kend ?_
                      refine th_n ?_
                      refine re ?_
                      refine rt1 rfl ?_
                      exact ⟨rfl, mm144.below⟩
              · refine so (o := _) rfl ?_
                refine k2 (wt_none rfl _) rfl (x_alc Tryd.ah rfl mm114 (cellsOf (List.replicate 32 0)) rfl) ?_
                rintro _ ww146 ⟨gg148, rfl, mm147⟩
                refine ⟨(mm147.sub (List.Sublist.cons _ (List.Sublist.cons _ (List.Sublist.cons _ (List.Sublist.cons_cons _ List.Sublist.slnil))))), ?_⟩
                refine kend ?_
                refine wa_fork 9 [] (by kernel_rfl) (by kernel_rfl) ⟨?_, trivial⟩
                · refine so (o := _) rfl ?_
                  refine k2 (wt_none rfl _) rfl (x_app Tryd.sh (.tmp 47) (.tmp 53) rfl mm147 2 rfl rfl (mm147.rc 1 rfl) (cH_len (H32.one (len_of (by rw [cellsOf_length]; exact H32.at h32 (by omega)))) rfl) (cH_one _) (by omega) rfl) ?_
                  rintro vv149 ww150 mm151
                  have mm152 : Mo w ww150 [.arr gg148 24 (cellsOf (List.replicate 32 0)), .own 24 32 vv108 1 (cH ([atH l (l.length - 1)])), .own 24 32 vv149 (l.length + 1) (cH (l ++ ([atH l (l.length - 1)]))), .arr gg16 24 (cellsOf (rootS l))] := (by have h := mm151; rw [← cH_append] at h; exact h)
                  refine ⟨(mm152.sub (List.Sublist.cons _ (List.Sublist.cons _ (List.Sublist.cons _ (List.Sublist.cons_cons _ List.Sublist.slnil))))), ?_⟩
                  refine kend ?_
                  refine wa_fork 10 [] (by kernel_rfl) (by kernel_rfl) ⟨?_, trivial⟩
                  · refine so (o := _) rfl ?_
                    refine kc (wt_none rfl _) rfl (x_cl1 (v0 := vv149) rfl rfl (by kernel_rfl)) (root_again vv149 l _ h32 (mm152.rc 2 rfl) hodd hlo (by omega) (ht.gr mm152.below) (Nat.le_trans h2 mm152.size)) ?_
                    rintro _ ww153 ⟨rfl, mm154⟩
                    have mm155 : Mo w ww153 [.arr gg148 24 (cellsOf (List.replicate 32 0)), .own 24 32 vv108 1 (cH ([atH l (l.length - 1)])), .own 24 32 vv149 (l.length + 1) (cH (l ++ ([atH l (l.length - 1)]))), .arr gg16 24 (cellsOf (rootS l))] := mm152.gr mm154
                    refine ⟨_, rfl, (mm155.sub (List.Sublist.cons _ (List.Sublist.cons _ (List.Sublist.cons _ (List.Sublist.cons_cons _ List.Sublist.slnil))))), ?_⟩
                    refine kend ?_
                    refine wa_first (i := 11) (by kernel_rfl) rfl (by kernel_rfl) ?_
                    refine k0 (wt_none rfl _) rfl (.tuple #[.agg (cellsOf (rootS l)).toArray, .bool true]) (fun _ _ => exec_move (.tmp 55) (.inl rfl) _ rfl) ?_
                    refine kend ?_
                    refine wa_first (i := 12) (by kernel_rfl) rfl (by kernel_rfl) ?_
                    refine k0 (wt_none rfl _) rfl (.agg (cellsOf (rootS l)).toArray) (fun _ _ => exec_extract (.tmp 44) 0 rfl [.agg (cellsOf (rootS l)).toArray, .bool true] _ rfl rfl) ?_
                    refine kend ?_
                    refine wa_first (i := 13) (by kernel_rfl) rfl (by kernel_rfl) ?_
                    refine k0 (wt_none rfl _) rfl (.bool true) (fun _ _ => exec_extract (.tmp 44) 1 rfl [.agg (cellsOf (rootS l)).toArray, .bool true] _ rfl rfl) ?_
                    refine kend ?_
                    refine wa_fork 15 [] (by kernel_rfl) (by kernel_rfl) ⟨?_, trivial⟩
                    · refine so (o := _) rfl ?_
                      refine ks (wt_none rfl _) rfl rfl (x_sta (.tmp 6) (.tmp 56) rfl mm155 0 rfl 0 (cellsOf (rootS l)) (cellsOf (rootS l)) (at_size Tryd.ah (rootS_len h32)) (sta_len (by rfl : (cellsOf (List.replicate 32 0)).length = 32) (rootS_len h32)) (cellsOf_one _) (sta_all (by rfl : (cellsOf (List.replicate 32 0)).length = 32) (rootS_len h32)) rfl (.agg (cellsOf (rootS l)).toArray) rfl rfl) ?_
                      rintro ww156 mm157
                      have mm158 : Mo w ww156 [.arr gg148 24 (cellsOf (rootS l)), .own 24 32 vv108 1 (cH ([atH l (l.length - 1)])), .own 24 32 vv149 (l.length + 1) (cH (l ++ ([atH l (l.length - 1)]))), .arr gg16 24 (cellsOf (rootS l))] := mm157
                      refine ⟨(mm158.sub (List.Sublist.cons _ (List.Sublist.cons _ (List.Sublist.cons _ (List.Sublist.cons_cons _ List.Sublist.slnil))))), ?_⟩
                      refine kend ?_
                      refine wa_first (i := 16) (by kernel_rfl) rfl (by kernel_rfl) ?_
                      refine k0 (wt_none rfl _) rfl (.bool true) (fun _ _ => exec_move (.tmp 57) (.inr rfl) _ rfl) ?_
                      refine kend ?_
                      refine wa_end (by kernel_rfl) ?_
                      refine th_n ?_
                      refine sq ?_
                      refine cz [(0, v), (2, .bool false), (3, .pointer (some ⟨gg16, 0, none⟩)), (4, .bool (dblS l)), (5, .int .i64 ((l.length : Nat) : Int)), (6, .pointer (some ⟨gg148, 0, none⟩)), (7, .bool true), (15, .bool false), (26, .bool false)] ⟨rfl, rfl, rfl, rfl, rfl, rfl, rfl, rfl, rfl, trivial⟩ (fun _ => ?_)
                      refine rp [2, 0, 1, 1, 0, 0, 0, 0, 0, 0] ?_
                      refine kc (wt_none rfl _) rfl (x_cl0 rfl (by kernel_rfl)) (alive_any _ (ht.gr mm158.below) (Nat.le_trans h2 mm158.size)) ?_
                      rintro _ ww159 ⟨rfl, mm160⟩
                      have mm161 : Mo w ww159 [.arr gg148 24 (cellsOf (rootS l)), .own 24 32 vv108 1 (cH ([atH l (l.length - 1)])), .own 24 32 vv149 (l.length + 1) (cH (l ++ ([atH l (l.length - 1)]))), .arr gg16 24 (cellsOf (rootS l))] := mm158.gr mm160
                      refine ⟨_, rfl, trivial, ?_⟩
                      refine k0 (wt_none rfl _) rfl (.bool true) (fun _ _ => exec_move (.tmp 58) (.inl rfl) _ rfl) ?_
                      refine k1 (wt_some rfl rfl rfl rfl) rfl (.agg (cellsOf (rootS l)).toArray) (exec_load_arr Tryd.ah (.tmp 6) rfl gg148 _ (rootS_len h32) rfl (mm161.arr 0 rfl)) ?_
                      refine k1 (wt_some rfl rfl rfl rfl) rfl (.agg (cellsOf (rootS l)).toArray) (exec_load_arr Tryd.ah (.tmp 3) rfl gg16 _ (rootS_len h32) rfl (mm161.arr 3 rfl)) ?_
                      refine k0 (wt_some rfl rfl rfl rfl) rfl (.bool true) (fun _ _ => x_eqa Tryd.ah Tryd.u8 (by kernel_rfl) (.tmp 60) (.tmp 61) _ rfl (rootS l) (rootS l) (rootS_len h32) (rootS_len h32) true (decide_eq_true rfl) rfl rfl) ?_
                      refine k0 (wt_none rfl _) rfl (.bool true) (fun _ _ => x_pick (.tmp 59) (.tmp 62) (.const (.bool false)) rfl true _ rfl rfl) ?_
                      refine k0 (wt_none rfl _) rfl (.bool true) (fun _ _ => exec_move (.tmp 63) (.inl rfl) _ rfl) ?_
                      refine k0 (wt_some rfl rfl rfl rfl) rfl (.bool true) (fun _ _ => exec_move (.tmp 7) (.inl rfl) _ rfl) ?_
                      refine k0 (wt_none rfl _) rfl (.bool true) (fun _ _ => x_pick (.tmp 64) (.tmp 65) (.const (.bool false)) rfl true _ rfl rfl) ?_
                      refine k0 (wt_none rfl _) rfl (.bool true) (fun _ _ => exec_move (.tmp 66) (.inr rfl) _ rfl) ?_
                      refine kend ?_
                      refine th_n ?_
                      refine re ?_
                      refine rt1 rfl ?_
                      exact ⟨rfl, mm161.below⟩
            · refine so (o := _) rfl ?_
              refine k2 (wt_none rfl _) rfl (x_alc Tryd.ah rfl mm110 (cellsOf (List.replicate 32 0)) rfl) ?_
              rintro _ ww163 ⟨gg165, rfl, mm164⟩
              refine ⟨(mm164.sub (List.Sublist.cons _ (List.Sublist.cons _ (List.Sublist.cons _ (List.Sublist.cons_cons _ List.Sublist.slnil))))), ?_⟩
              refine kend ?_
              refine wa_fork 2 [] (by kernel_rfl) (by kernel_rfl) ⟨?_, trivial⟩
              · refine so (o := _) rfl ?_
                refine k2 (wt_none rfl _) rfl (x_app Tryd.sh (.tmp 45) (.tmp 46) rfl mm164 2 rfl rfl (Rc.at hv mm164) (cH_len h32 (by first | rfl | omega)) (cH_one _) (by omega) rfl) ?_
                rintro vv166 ww167 mm168
                have mm169 : Mo w ww167 [.arr gg165 24 (cellsOf (List.replicate 32 0)), .own 24 32 vv108 1 (cH ([atH l (l.length - 1)])), .own 24 32 vv166 l.length (cH l), .arr gg16 24 (cellsOf (rootS l))] := (by have h := mm168; rw [List.nil_append, Nat.zero_add] at h; exact h)
                refine ⟨(mm169.sub (List.Sublist.cons _ (List.Sublist.cons _ (List.Sublist.cons _ (List.Sublist.cons_cons _ List.Sublist.slnil))))), ?_⟩
                refine kend ?_
                refine wa_fork 9 [] (by kernel_rfl) (by kernel_rfl) ⟨?_, trivial⟩
                · refine so (o := _) rfl ?_
                  refine k2 (wt_none rfl _) rfl (x_app Tryd.sh (.tmp 47) (.tmp 53) rfl mm169 2 rfl rfl (mm169.rc 1 rfl) (cH_len (H32.one (len_of (by rw [cellsOf_length]; exact H32.at h32 (by omega)))) rfl) (cH_one _) (by omega) rfl) ?_
                  rintro vv170 ww171 mm172
                  have mm173 : Mo w ww171 [.arr gg165 24 (cellsOf (List.replicate 32 0)), .own 24 32 vv108 1 (cH ([atH l (l.length - 1)])), .own 24 32 vv170 (l.length + 1) (cH (l ++ ([atH l (l.length - 1)]))), .arr gg16 24 (cellsOf (rootS l))] := (by have h := mm172; rw [← cH_append] at h; exact h)
                  refine ⟨(mm173.sub (List.Sublist.cons _ (List.Sublist.cons _ (List.Sublist.cons _ (List.Sublist.cons_cons _ List.Sublist.slnil))))), ?_⟩
                  refine kend ?_
                  refine wa_fork 10 [] (by kernel_rfl) (by kernel_rfl) ⟨?_, trivial⟩
                  · refine so (o := _) rfl ?_
                    refine kc (wt_none rfl _) rfl (x_cl1 (v0 := vv170) rfl rfl (by kernel_rfl)) (root_again vv170 l _ h32 (mm173.rc 2 rfl) hodd hlo (by omega) (ht.gr mm173.below) (Nat.le_trans h2 mm173.size)) ?_
                    rintro _ ww174 ⟨rfl, mm175⟩
                    have mm176 : Mo w ww174 [.arr gg165 24 (cellsOf (List.replicate 32 0)), .own 24 32 vv108 1 (cH ([atH l (l.length - 1)])), .own 24 32 vv170 (l.length + 1) (cH (l ++ ([atH l (l.length - 1)]))), .arr gg16 24 (cellsOf (rootS l))] := mm173.gr mm175
                    refine ⟨_, rfl, (mm176.sub (List.Sublist.cons _ (List.Sublist.cons _ (List.Sublist.cons _ (List.Sublist.cons_cons _ List.Sublist.slnil))))), ?_⟩
                    refine kend ?_
                    refine wa_first (i := 11) (by kernel_rfl) rfl (by kernel_rfl) ?_
                    refine k0 (wt_none rfl _) rfl (.tuple #[.agg (cellsOf (rootS l)).toArray, .bool true]) (fun _ _ => exec_move (.tmp 55) (.inl rfl) _ rfl) ?_
                    refine kend ?_
                    refine wa_first (i := 12) (by kernel_rfl) rfl (by kernel_rfl) ?_
                    refine k0 (wt_none rfl _) rfl (.agg (cellsOf (rootS l)).toArray) (fun _ _ => exec_extract (.tmp 44) 0 rfl [.agg (cellsOf (rootS l)).toArray, .bool true] _ rfl rfl) ?_
                    refine kend ?_
                    refine wa_first (i := 13) (by kernel_rfl) rfl (by kernel_rfl) ?_
                    refine k0 (wt_none rfl _) rfl (.bool true) (fun _ _ => exec_extract (.tmp 44) 1 rfl [.agg (cellsOf (rootS l)).toArray, .bool true] _ rfl rfl) ?_
                    refine kend ?_
                    refine wa_fork 15 [] (by kernel_rfl) (by kernel_rfl) ⟨?_, trivial⟩
                    · refine so (o := _) rfl ?_
                      refine ks (wt_none rfl _) rfl rfl (x_sta (.tmp 6) (.tmp 56) rfl mm176 0 rfl 0 (cellsOf (rootS l)) (cellsOf (rootS l)) (at_size Tryd.ah (rootS_len h32)) (sta_len (by rfl : (cellsOf (List.replicate 32 0)).length = 32) (rootS_len h32)) (cellsOf_one _) (sta_all (by rfl : (cellsOf (List.replicate 32 0)).length = 32) (rootS_len h32)) rfl (.agg (cellsOf (rootS l)).toArray) rfl rfl) ?_
                      rintro ww177 mm178
                      have mm179 : Mo w ww177 [.arr gg165 24 (cellsOf (rootS l)), .own 24 32 vv108 1 (cH ([atH l (l.length - 1)])), .own 24 32 vv170 (l.length + 1) (cH (l ++ ([atH l (l.length - 1)]))), .arr gg16 24 (cellsOf (rootS l))] := mm178
                      refine ⟨(mm179.sub (List.Sublist.cons _ (List.Sublist.cons _ (List.Sublist.cons _ (List.Sublist.cons_cons _ List.Sublist.slnil))))), ?_⟩
                      refine kend ?_
                      refine wa_first (i := 16) (by kernel_rfl) rfl (by kernel_rfl) ?_
                      refine k0 (wt_none rfl _) rfl (.bool true) (fun _ _ => exec_move (.tmp 57) (.inr rfl) _ rfl) ?_
                      refine kend ?_
                      refine wa_end (by kernel_rfl) ?_
                      refine th_n ?_
                      refine sq ?_
                      refine cz [(0, v), (2, .bool false), (3, .pointer (some ⟨gg16, 0, none⟩)), (4, .bool (dblS l)), (5, .int .i64 ((l.length : Nat) : Int)), (6, .pointer (some ⟨gg165, 0, none⟩)), (7, .bool true), (15, .bool false), (26, .bool false)] ⟨rfl, rfl, rfl, rfl, rfl, rfl, rfl, rfl, rfl, trivial⟩ (fun _ => ?_)
                      refine rp [2, 0, 1, 1, 0, 0, 0, 0, 0, 0] ?_
                      refine kc (wt_none rfl _) rfl (x_cl0 rfl (by kernel_rfl)) (alive_any _ (ht.gr mm179.below) (Nat.le_trans h2 mm179.size)) ?_
                      rintro _ ww180 ⟨rfl, mm181⟩
                      have mm182 : Mo w ww180 [.arr gg165 24 (cellsOf (rootS l)), .own 24 32 vv108 1 (cH ([atH l (l.length - 1)])), .own 24 32 vv170 (l.length + 1) (cH (l ++ ([atH l (l.length - 1)]))), .arr gg16 24 (cellsOf (rootS l))] := mm179.gr mm181
                      refine ⟨_, rfl, trivial, ?_⟩
                      refine k0 (wt_none rfl _) rfl (.bool true) (fun _ _ => exec_move (.tmp 58) (.inl rfl) _ rfl) ?_
                      refine k1 (wt_some rfl rfl rfl rfl) rfl (.agg (cellsOf (rootS l)).toArray) (exec_load_arr Tryd.ah (.tmp 6) rfl gg165 _ (rootS_len h32) rfl (mm182.arr 0 rfl)) ?_
                      refine k1 (wt_some rfl rfl rfl rfl) rfl (.agg (cellsOf (rootS l)).toArray) (exec_load_arr Tryd.ah (.tmp 3) rfl gg16 _ (rootS_len h32) rfl (mm182.arr 3 rfl)) ?_
                      refine k0 (wt_some rfl rfl rfl rfl) rfl (.bool true) (fun _ _ => x_eqa Tryd.ah Tryd.u8 (by kernel_rfl) (.tmp 60) (.tmp 61) _ rfl (rootS l) (rootS l) (rootS_len h32) (rootS_len h32) true (decide_eq_true rfl) rfl rfl) ?_
                      refine k0 (wt_none rfl _) rfl (.bool true) (fun _ _ => x_pick (.tmp 59) (.tmp 62) (.const (.bool false)) rfl true _ rfl rfl) ?_
                      refine k0 (wt_none rfl _) rfl (.bool true) (fun _ _ => exec_move (.tmp 63) (.inl rfl) _ rfl) ?_
                      refine k0 (wt_some rfl rfl rfl rfl) rfl (.bool true) (fun _ _ => exec_move (.tmp 7) (.inl rfl) _ rfl) ?_
                      refine k0 (wt_none rfl _) rfl (.bool true) (fun _ _ => x_pick (.tmp 64) (.tmp 65) (.const (.bool false)) rfl true _ rfl rfl) ?_
                      refine k0 (wt_none rfl _) rfl (.bool true) (fun _ _ => exec_move (.tmp 66) (.inr rfl) _ rfl) ?_
                      refine kend ?_
                      refine th_n ?_
                      refine re ?_
                      refine rt1 rfl ?_
                      exact ⟨rfl, mm182.below⟩
          · refine so (o := _) rfl ?_
            refine k2 (wt_none rfl _) rfl (x_alc Tryd.ah rfl mm33 (cellsOf (List.replicate 32 0)) rfl) ?_
            rintro _ ww184 ⟨gg186, rfl, mm185⟩
            refine ⟨(mm185.sub (List.Sublist.cons _ (List.Sublist.cons _ (List.Sublist.cons_cons _ List.Sublist.slnil)))), ?_⟩
            refine kend ?_
            refine wa_fork 2 [8] (by kernel_rfl) (by kernel_rfl) ⟨?_, ?_, trivial⟩
            · refine so (o := _) rfl ?_
              refine k2 (wt_none rfl _) rfl (x_app Tryd.sh (.tmp 45) (.tmp 46) rfl mm185 1 rfl rfl (Rc.at hv mm185) (cH_len h32 (by first | rfl | omega)) (cH_one _) (by omega) rfl) ?_
              rintro vv187 ww188 mm189
              have mm190 : Mo w ww188 [.arr gg186 24 (cellsOf (List.replicate 32 0)), .own 24 32 vv187 l.length (cH l), .arr gg16 24 (cellsOf (rootS l))] := (by have h := mm189; rw [List.nil_append, Nat.zero_add] at h; exact h)
              refine ⟨(mm190.sub (List.Sublist.cons _ (List.Sublist.cons _ (List.Sublist.cons_cons _ List.Sublist.slnil)))), ?_⟩
              refine kend ?_
              refine wa_fork 8 [] (by kernel_rfl) (by kernel_rfl) ⟨?_, trivial⟩
              · refine so (o := _) rfl ?_
                refine k2 (wt_none rfl _) rfl (x_bld Tryd.sh 1 _ rfl mm190 (vH [atH l (l.length - 1)]) (cH [atH l (l.length - 1)]) rfl (by decide) (vH_size (H32.one (len_of (by rw [cellsOf_length]; exact H32.at h32 (by omega))))) (vH_flat [atH l (l.length - 1)]) rfl) ?_
                rintro vv191 ww192 mm193
                refine ⟨(mm193.sub (List.Sublist.cons _ (List.Sublist.cons _ (List.Sublist.cons _ (List.Sublist.cons_cons _ List.Sublist.slnil))))), ?_⟩
                refine kend ?_
                refine wa_fork 9 [] (by kernel_rfl) (by kernel_rfl) ⟨?_, trivial⟩
                · refine so (o := _) rfl ?_
                  refine k2 (wt_none rfl _) rfl (x_app Tryd.sh (.tmp 47) (.tmp 53) rfl mm193 2 rfl rfl (mm193.rc 0 rfl) (cH_len (H32.one (len_of (by rw [cellsOf_length]; exact H32.at h32 (by omega)))) rfl) (cH_one _) (by omega) rfl) ?_
                  rintro vv194 ww195 mm196
                  have mm197 : Mo w ww195 [.own 24 32 vv191 1 (cH ([atH l (l.length - 1)])), .arr gg186 24 (cellsOf (List.replicate 32 0)), .own 24 32 vv194 (l.length + 1) (cH (l ++ ([atH l (l.length - 1)]))), .arr gg16 24 (cellsOf (rootS l))] := (by have h := mm196; rw [← cH_append] at h; exact h)
                  refine ⟨(mm197.sub (List.Sublist.cons _ (List.Sublist.cons _ (List.Sublist.cons _ (List.Sublist.cons_cons _ List.Sublist.slnil))))), ?_⟩
                  refine kend ?_
                  refine wa_fork 10 [] (by kernel_rfl) (by kernel_rfl) ⟨?_, trivial⟩
                  · refine so (o := _) rfl ?_
                    refine kc (wt_none rfl _) rfl (x_cl1 (v0 := vv194) rfl rfl (by kernel_rfl)) (root_again vv194 l _ h32 (mm197.rc 2 rfl) hodd hlo (by omega) (ht.gr mm197.below) (Nat.le_trans h2 mm197.size)) ?_
                    rintro _ ww198 ⟨rfl, mm199⟩
                    have mm200 : Mo w ww198 [.own 24 32 vv191 1 (cH ([atH l (l.length - 1)])), .arr gg186 24 (cellsOf (List.replicate 32 0)), .own 24 32 vv194 (l.length + 1) (cH (l ++ ([atH l (l.length - 1)]))), .arr gg16 24 (cellsOf (rootS l))] := mm197.gr mm199
                    refine ⟨_, rfl, (mm200.sub (List.Sublist.cons _ (List.Sublist.cons _ (List.Sublist.cons _ (List.Sublist.cons_cons _ List.Sublist.slnil))))), ?_⟩
                    refine kend ?_
                    refine wa_first (i := 11) (by kernel_rfl) rfl (by kernel_rfl) ?_
                    refine k0 (wt_none rfl _) rfl (.tuple #[.agg (cellsOf (rootS l)).toArray, .bool true]) (fun _ _ => exec_move (.tmp 55) (.inl rfl) _ rfl) ?_
                    refine kend ?_
                    refine wa_first (i := 12) (by kernel_rfl) rfl (by kernel_rfl) ?_
                    refine k0 (wt_none rfl _) rfl (.agg (cellsOf (rootS l)).toArray) (fun _ _ => exec_extract (.tmp 44) 0 rfl [.agg (cellsOf (rootS l)).toArray, .bool true] _ rfl rfl) ?_
                    refine kend ?_
                    refine wa_first (i := 13) (by kernel_rfl) rfl (by kernel_rfl) ?_
                    refine k0 (wt_none rfl _) rfl (.bool true) (fun _ _ => exec_extract (.tmp 44) 1 rfl [.agg (cellsOf (rootS l)).toArray, .bool true] _ rfl rfl) ?_
                    refine kend ?_
                    refine wa_fork 15 [] (by kernel_rfl) (by kernel_rfl) ⟨?_, trivial⟩
                    · refine so (o := _) rfl ?_
                      refine ks (wt_none rfl _) rfl rfl (x_sta (.tmp 6) (.tmp 56) rfl mm200 1 rfl 0 (cellsOf (rootS l)) (cellsOf (rootS l)) (at_size Tryd.ah (rootS_len h32)) (sta_len (by rfl : (cellsOf (List.replicate 32 0)).length = 32) (rootS_len h32)) (cellsOf_one _) (sta_all (by rfl : (cellsOf (List.replicate 32 0)).length = 32) (rootS_len h32)) rfl (.agg (cellsOf (rootS l)).toArray) rfl rfl) ?_
                      rintro ww201 mm202
                      have mm203 : Mo w ww201 [.own 24 32 vv191 1 (cH ([atH l (l.length - 1)])), .arr gg186 24 (cellsOf (rootS l)), .own 24 32 vv194 (l.length + 1) (cH (l ++ ([atH l (l.length - 1)]))), .arr gg16 24 (cellsOf (rootS l))] := mm202
                      refine ⟨(mm203.sub (List.Sublist.cons _ (List.Sublist.cons _ (List.Sublist.cons _ (List.Sublist.cons_cons _ List.Sublist.slnil))))), ?_⟩
                      refine kend ?_
                      refine wa_first (i := 16) (by kernel_rfl) rfl (by kernel_rfl) ?_
                      refine k0 (wt_none rfl _) rfl (.bool true) (fun _ _ => exec_move (.tmp 57) (.inr rfl) _ rfl) ?_
                      refine kend ?_
                      refine wa_end (by kernel_rfl) ?_
                      refine th_n ?_
                      refine sq ?_
                      refine cz [(0, v), (2, .bool false), (3, .pointer (some ⟨gg16, 0, none⟩)), (4, .bool (dblS l)), (5, .int .i64 ((l.length : Nat) : Int)), (6, .pointer (some ⟨gg186, 0, none⟩)), (7, .bool true), (15, .bool false), (26, .bool false)] ⟨rfl, rfl, rfl, rfl, rfl, rfl, rfl, rfl, rfl, trivial⟩ (fun _ => ?_)
                      refine rp [2, 0, 1, 1, 0, 0, 0, 0, 0, 0] ?_
                      refine kc (wt_none rfl _) rfl (x_cl0 rfl (by kernel_rfl)) (alive_any _ (ht.gr mm203.below) (Nat.le_trans h2 mm203.size)) ?_
                      rintro _ ww204 ⟨rfl, mm205⟩
                      have mm206 : Mo w ww204 [.own 24 32 vv191 1 (cH ([atH l (l.length - 1)])), .arr gg186 24 (cellsOf (rootS l)), .own 24 32 vv194 (l.length + 1) (cH (l ++ ([atH l (l.length - 1)]))), .arr gg16 24 (cellsOf (rootS l))] := mm203.gr mm205
                      refine ⟨_, rfl, trivial, ?_⟩
                      refine k0 (wt_none rfl _) rfl (.bool true) (fun _ _ => exec_move (.tmp 58) (.inl rfl) _ rfl) ?_
                      refine k1 (wt_some rfl rfl rfl rfl) rfl (.agg (cellsOf (rootS l)).toArray) (exec_load_arr Tryd.ah (.tmp 6) rfl gg186 _ (rootS_len h32) rfl (mm206.arr 1 rfl)) ?_
                      refine k1 (wt_some rfl rfl rfl rfl) rfl (.agg (cellsOf (rootS l)).toArray) (exec_load_arr Tryd.ah (.tmp 3) rfl gg16 _ (rootS_len h32) rfl (mm206.arr 3 rfl)) ?_
                      refine k0 (wt_some rfl rfl rfl rfl) rfl (.bool true) (fun _ _ => x_eqa Tryd.ah Tryd.u8 (by kernel_rfl) (.tmp 60) (.tmp 61) _ rfl (rootS l) (rootS l) (rootS_len h32) (rootS_len h32) true (decide_eq_true rfl) rfl rfl) ?_
                      refine k0 (wt_none rfl _) rfl (.bool true) (fun _ _ => x_pick (.tmp 59) (.tmp 62) (.const (.bool false)) rfl true _ rfl rfl) ?_
                      refine k0 (wt_none rfl _) rfl (.bool true) (fun _ _ => exec_move (.tmp 63) (.inl rfl) _ rfl) ?_
                      refine k0 (wt_some rfl rfl rfl rfl) rfl (.bool true) (fun _ _ => exec_move (.tmp 7) (.inl rfl) _ rfl) ?_
                      refine k0 (wt_none rfl _) rfl (.bool true) (fun _ _ => x_pick (.tmp 64) (.tmp 65) (.const (.bool false)) rfl true _ rfl rfl) ?_
                      refine k0 (wt_none rfl _) rfl (.bool true) (fun _ _ => exec_move (.tmp 66) (.inr rfl) _ rfl) ?_
                      refine kend ?_
                      refine th_n ?_
                      refine re ?_
                      refine rt1 rfl ?_
                      exact ⟨rfl, mm206.below⟩
            · refine so (o := _) rfl ?_
              refine k2 (wt_none rfl _) rfl (x_bld Tryd.sh 1 _ rfl mm185 (vH [atH l (l.length - 1)]) (cH [atH l (l.length - 1)]) rfl (by decide) (vH_size (H32.one (len_of (by rw [cellsOf_length]; exact H32.at h32 (by omega))))) (vH_flat [atH l (l.length - 1)]) rfl) ?_
              rintro vv207 ww208 mm209
              refine ⟨(mm209.sub (List.Sublist.cons _ (List.Sublist.cons _ (List.Sublist.cons _ (List.Sublist.cons_cons _ List.Sublist.slnil))))), ?_⟩
              refine kend ?_
              refine wa_fork 2 [] (by kernel_rfl) (by kernel_rfl) ⟨?_, trivial⟩
              · refine so (o := _) rfl ?_
                refine k2 (wt_none rfl _) rfl (x_app Tryd.sh (.tmp 45) (.tmp 46) rfl mm209 2 rfl rfl (Rc.at hv mm209) (cH_len h32 (by first | rfl | omega)) (cH_one _) (by omega) rfl) ?_
                rintro vv210 ww211 mm212
                have mm213 : Mo w ww211 [.own 24 32 vv207 1 (cH ([atH l (l.length - 1)])), .arr gg186 24 (cellsOf (List.replicate 32 0)), .own 24 32 vv210 l.length (cH l), .arr gg16 24 (cellsOf (rootS l))] := (by have h := mm212; rw [List.nil_append, Nat.zero_add] at h; exact h)
                refine ⟨(mm213.sub (List.Sublist.cons _ (List.Sublist.cons _ (List.Sublist.cons _ (List.Sublist.cons_cons _ List.Sublist.slnil))))), ?_⟩
                refine kend ?_
                refine wa_fork 9 [] (by kernel_rfl) (by kernel_rfl) ⟨?_, trivial⟩
                · refine so (o := _) rfl ?_
                  refine k2 (wt_none rfl _) rfl (x_app Tryd.sh (.tmp 47) (.tmp 53) rfl mm213 2 rfl rfl (mm213.rc 0 rfl) (cH_len (H32.one (len_of (by rw [cellsOf_length]; exact H32.at h32 (by omega)))) rfl) (cH_one _) (by omega) rfl) ?_
                  rintro vv214 ww215 mm216
                  have mm217 : Mo w ww215 [.own 24 32 vv207 1 (cH ([atH l (l.length - 1)])), .arr gg186 24 (cellsOf (List.replicate 32 0)), .own 24 32 vv214 (l.length + 1) (cH (l ++ ([atH l (l.length - 1)]))), .arr gg16 24 (cellsOf (rootS l))] := (by have h := mm216; rw [← cH_append] at h; exact h)
                  refine ⟨(mm217.sub (List.Sublist.cons _ (List.Sublist.cons _ (List.Sublist.cons _ (List.Sublist.cons_cons _ List.Sublist.slnil))))), ?_⟩
                  refine kend ?_
                  refine wa_fork 10 [] (by kernel_rfl) (by kernel_rfl) ⟨?_, trivial⟩
                  · refine so (o := _) rfl ?_
                    refine kc (wt_none rfl _) rfl (x_cl1 (v0 := vv214) rfl rfl (by kernel_rfl)) (root_again vv214 l _ h32 (mm217.rc 2 rfl) hodd hlo (by omega) (ht.gr mm217.below) (Nat.le_trans h2 mm217.size)) ?_
                    rintro _ ww218 ⟨rfl, mm219⟩
                    have mm220 : Mo w ww218 [.own 24 32 vv207 1 (cH ([atH l (l.length - 1)])), .arr gg186 24 (cellsOf (List.replicate 32 0)), .own 24 32 vv214 (l.length + 1) (cH (l ++ ([atH l (l.length - 1)]))), .arr gg16 24 (cellsOf (rootS l))] := mm217.gr mm219
                    refine ⟨_, rfl, (mm220.sub (List.Sublist.cons _ (List.Sublist.cons _ (List.Sublist.cons _ (List.Sublist.cons_cons _ List.Sublist.slnil))))), ?_⟩
                    refine kend ?_
                    refine wa_first (i := 11) (by kernel_rfl) rfl (by kernel_rfl) ?_
                    refine k0 (wt_none rfl _) rfl (.tuple #[.agg (cellsOf (rootS l)).toArray, .bool true]) (fun _ _ => exec_move (.tmp 55) (.inl rfl) _ rfl) ?_
                    refine kend ?_
                    refine wa_first (i := 12) (by kernel_rfl) rfl (by kernel_rfl) ?_
                    refine k0 (wt_none rfl _) rfl (.agg (cellsOf (rootS l)).toArray) (fun _ _ => exec_extract (.tmp 44) 0 rfl [.agg (cellsOf (rootS l)).toArray, .bool true] _ rfl rfl) ?_
                    refine kend ?_
                    refine wa_first (i := 13) (by kernel_rfl) rfl (by kernel_rfl) ?_
                    refine k0 (wt_none rfl _) rfl (.bool true) (fun _ _ => exec_extract (.tmp 44) 1 rfl [.agg (cellsOf (rootS l)).toArray, .bool true] _ rfl rfl) ?_
                    refine kend ?_
                    refine wa_fork 15 [] (by kernel_rfl) (by kernel_rfl) ⟨?_, trivial⟩
                    · refine so (o := _) rfl ?_
                      refine ks (wt_none rfl _) rfl rfl (x_sta (.tmp 6) (.tmp 56) rfl mm220 1 rfl 0 (cellsOf (rootS l)) (cellsOf (rootS l)) (at_size Tryd.ah (rootS_len h32)) (sta_len (by rfl : (cellsOf (List.replicate 32 0)).length = 32) (rootS_len h32)) (cellsOf_one _) (sta_all (by rfl : (cellsOf (List.replicate 32 0)).length = 32) (rootS_len h32)) rfl (.agg (cellsOf (rootS l)).toArray) rfl rfl) ?_
                      rintro ww221 mm222
                      have mm223 : Mo w ww221 [.own 24 32 vv207 1 (cH ([atH l (l.length - 1)])), .arr gg186 24 (cellsOf (rootS l)), .own 24 32 vv214 (l.length + 1) (cH (l ++ ([atH l (l.length - 1)]))), .arr gg16 24 (cellsOf (rootS l))] := mm222
                      refine ⟨(mm223.sub (List.Sublist.cons _ (List.Sublist.cons _ (List.Sublist.cons _ (List.Sublist.cons_cons _ List.Sublist.slnil))))), ?_⟩
                      refine kend ?_
                      refine wa_first (i := 16) (by kernel_rfl) rfl (by kernel_rfl) ?_
                      refine k0 (wt_none rfl _) rfl (.bool true) (fun _ _ => exec_move (.tmp 57) (.inr rfl) _ rfl) ?_
                      refine kend ?_
                      refine wa_end (by kernel_rfl) ?_
                      refine th_n ?_
                      refine sq ?_
                      refine cz [(0, v), (2, .bool false), (3, .pointer (some ⟨gg16, 0, none⟩)), (4, .bool (dblS l)), (5, .int .i64 ((l.length : Nat) : Int)), (6, .pointer (some ⟨gg186, 0, none⟩)), (7, .bool true), (15, .bool false), (26, .bool false)] ⟨rfl, rfl, rfl, rfl, rfl, rfl, rfl, rfl, rfl, trivial⟩ (fun _ => ?_)
                      refine rp [2, 0, 1, 1, 0, 0, 0, 0, 0, 0] ?_
                      refine kc (wt_none rfl _) rfl (x_cl0 rfl (by kernel_rfl)) (alive_any _ (ht.gr mm223.below) (Nat.le_trans h2 mm223.size)) ?_
                      rintro _ ww224 ⟨rfl, mm225⟩
                      have mm226 : Mo w ww224 [.own 24 32 vv207 1 (cH ([atH l (l.length - 1)])), .arr gg186 24 (cellsOf (rootS l)), .own 24 32 vv214 (l.length + 1) (cH (l ++ ([atH l (l.length - 1)]))), .arr gg16 24 (cellsOf (rootS l))] := mm223.gr mm225
                      refine ⟨_, rfl, trivial, ?_⟩
                      refine k0 (wt_none rfl _) rfl (.bool true) (fun _ _ => exec_move (.tmp 58) (.inl rfl) _ rfl) ?_
                      refine k1 (wt_some rfl rfl rfl rfl) rfl (.agg (cellsOf (rootS l)).toArray) (exec_load_arr Tryd.ah (.tmp 6) rfl gg186 _ (rootS_len h32) rfl (mm226.arr 1 rfl)) ?_
                      refine k1 (wt_some rfl rfl rfl rfl) rfl (.agg (cellsOf (rootS l)).toArray) (exec_load_arr Tryd.ah (.tmp 3) rfl gg16 _ (rootS_len h32) rfl (mm226.arr 3 rfl)) ?_
                      refine k0 (wt_some rfl rfl rfl rfl) rfl (.bool true) (fun _ _ => x_eqa Tryd.ah Tryd.u8 (by kernel_rfl) (.tmp 60) (.tmp 61) _ rfl (rootS l) (rootS l) (rootS_len h32) (rootS_len h32) true (decide_eq_true rfl) rfl rfl) ?_
                      refine k0 (wt_none rfl _) rfl (.bool true) (fun _ _ => x_pick (.tmp 59) (.tmp 62) (.const (.bool false)) rfl true _ rfl rfl) ?_
                      refine k0 (wt_none rfl _) rfl (.bool true) (fun _ _ => exec_move (.tmp 63) (.inl rfl) _ rfl) ?_
                      refine k0 (wt_some rfl rfl rfl rfl) rfl (.bool true) (fun _ _ => exec_move (.tmp 7) (.inl rfl) _ rfl) ?_
                      refine k0 (wt_none rfl _) rfl (.bool true) (fun _ _ => x_pick (.tmp 64) (.tmp 65) (.const (.bool false)) rfl true _ rfl rfl) ?_
                      refine k0 (wt_none rfl _) rfl (.bool true) (fun _ _ => exec_move (.tmp 66) (.inr rfl) _ rfl) ?_
                      refine kend ?_
                      refine th_n ?_
                      refine re ?_
                      refine rt1 rfl ?_
                      exact ⟨rfl, mm226.below⟩
        · refine so (o := _) rfl ?_
          refine k2 (wt_none rfl _) rfl (x_bld Tryd.sh 1 _ rfl mm30 (vH [atH l (l.length - 1)]) (cH [atH l (l.length - 1)]) rfl (by decide) (vH_size (H32.one (len_of (by rw [cellsOf_length]; exact H32.at h32 (by omega))))) (vH_flat [atH l (l.length - 1)]) rfl) ?_
          rintro vv227 ww228 mm229
          refine ⟨(mm229.sub (List.Sublist.cons _ (List.Sublist.cons_cons _ List.Sublist.slnil))), ?_⟩
          refine kend ?_
          refine wa_fork 0 [14] (by kernel_rfl) (by kernel_rfl) ⟨?_, ?_, trivial⟩
          · refine so (o := _) rfl ?_
            refine k2 (wt_none rfl _) rfl (x_bld Tryd.sh 0 _ rfl mm229 [] [] rfl (by decide) (fun _ h => absurd h List.not_mem_nil) rfl rfl) ?_
            rintro vv230 ww231 mm232
            refine ⟨(mm232.sub (List.Sublist.cons _ (List.Sublist.cons _ (List.Sublist.cons_cons _ List.Sublist.slnil)))), ?_⟩
            refine kend ?_
            refine wa_fork 2 [14] (by kernel_rfl) (by kernel_rfl) ⟨?_, ?_, trivial⟩
            · refine so (o := _) rfl ?_
              refine k2 (wt_none rfl _) rfl (x_app Tryd.sh (.tmp 45) (.tmp 46) rfl mm232 0 rfl rfl (Rc.at hv mm232) (cH_len h32 (by first | rfl | omega)) (cH_one _) (by omega) rfl) ?_
              rintro vv233 ww234 mm235
              have mm236 : Mo w ww234 [.own 24 32 vv233 l.length (cH l), .own 24 32 vv227 1 (cH ([atH l (l.length - 1)])), .arr gg16 24 (cellsOf (rootS l))] := (by have h := mm235; rw [List.nil_append, Nat.zero_add] at h; exact h)
              refine ⟨(mm236.sub (List.Sublist.cons _ (List.Sublist.cons _ (List.Sublist.cons_cons _ List.Sublist.slnil)))), ?_⟩
              refine kend ?_
              refine wa_fork 9 [14] (by kernel_rfl) (by kernel_rfl) ⟨?_, ?_, trivial⟩
              · refine so (o := _) rfl ?_
                refine k2 (wt_none rfl _) rfl (x_app Tryd.sh (.tmp 47) (.tmp 53) rfl mm236 0 rfl rfl (mm236.rc 1 rfl) (cH_len (H32.one (len_of (by rw [cellsOf_length]; exact H32.at h32 (by omega)))) rfl) (cH_one _) (by omega) rfl) ?_
                rintro vv237 ww238 mm239
                have mm240 : Mo w ww238 [.own 24 32 vv237 (l.length + 1) (cH (l ++ ([atH l (l.length - 1)]))), .own 24 32 vv227 1 (cH ([atH l (l.length - 1)])), .arr gg16 24 (cellsOf (rootS l))] := (by have h := mm239; rw [← cH_append] at h; exact h)
                refine ⟨(mm240.sub (List.Sublist.cons _ (List.Sublist.cons _ (List.Sublist.cons_cons _ List.Sublist.slnil)))), ?_⟩
                refine kend ?_
                refine wa_fork 10 [14] (by kernel_rfl) (by kernel_rfl) ⟨?_, ?_, trivial⟩
                · refine so (o := _) rfl ?_
                  refine kc (wt_none rfl _) rfl (x_cl1 (v0 := vv237) rfl rfl (by kernel_rfl)) (root_again vv237 l _ h32 (mm240.rc 0 rfl) hodd hlo (by omega) (ht.gr mm240.below) (Nat.le_trans h2 mm240.size)) ?_
                  rintro _ ww241 ⟨rfl, mm242⟩
                  have mm243 : Mo w ww241 [.own 24 32 vv237 (l.length + 1) (cH (l ++ ([atH l (l.length - 1)]))), .own 24 32 vv227 1 (cH ([atH l (l.length - 1)])), .arr gg16 24 (cellsOf (rootS l))] := mm240.gr mm242
                  refine ⟨_, rfl, (mm243.sub (List.Sublist.cons _ (List.Sublist.cons _ (List.Sublist.cons_cons _ List.Sublist.slnil)))), ?_⟩
                  refine kend ?_
                  refine wa_first (i := 11) (by kernel_rfl) rfl (by kernel_rfl) ?_
                  refine k0 (wt_none rfl _) rfl (.tuple #[.agg (cellsOf (rootS l)).toArray, .bool true]) (fun _ _ => exec_move (.tmp 55) (.inl rfl) _ rfl) ?_
                  refine kend ?_
                  refine wa_first (i := 12) (by kernel_rfl) rfl (by kernel_rfl) ?_
                  refine k0 (wt_none rfl _) rfl (.agg (cellsOf (rootS l)).toArray) (fun _ _ => exec_extract (.tmp 44) 0 rfl [.agg (cellsOf (rootS l)).toArray, .bool true] _ rfl rfl) ?_
                  refine kend ?_
                  refine wa_first (i := 13) (by kernel_rfl) rfl (by kernel_rfl) ?_
                  refine k0 (wt_none rfl _) rfl (.bool true) (fun _ _ => exec_extract (.tmp 44) 1 rfl [.agg (cellsOf (rootS l)).toArray, .bool true] _ rfl rfl) ?_
                  refine kend ?_
                  refine wa_fork 14 [] (by kernel_rfl) (by kernel_rfl) ⟨?_, trivial⟩
                  · refine so (o := _) rfl ?_
                    refine k2 (wt_none rfl _) rfl (x_alc Tryd.ah rfl mm243 (cellsOf (List.replicate 32 0)) rfl) ?_
                    rintro _ ww245 ⟨gg247, rfl, mm246⟩
                    refine ⟨(mm246.sub (List.Sublist.cons _ (List.Sublist.cons _ (List.Sublist.cons _ (List.Sublist.cons_cons _ List.Sublist.slnil))))), ?_⟩
                    refine kend ?_
                    refine wa_fork 15 [] (by kernel_rfl) (by kernel_rfl) ⟨?_, trivial⟩
                    · refine so (o := _) rfl ?_
                      refine ks (wt_none rfl _) rfl rfl (x_sta (.tmp 6) (.tmp 56) rfl mm246 0 rfl 0 (cellsOf (rootS l)) (cellsOf (rootS l)) (at_size Tryd.ah (rootS_len h32)) (sta_len (by rfl : (cellsOf (List.replicate 32 0)).length = 32) (rootS_len h32)) (cellsOf_one _) (sta_all (by rfl : (cellsOf (List.replicate 32 0)).length = 32) (rootS_len h32)) rfl (.agg (cellsOf (rootS l)).toArray) rfl rfl) ?_
                      rintro ww248 mm249
                      have mm250 : Mo w ww248 [.arr gg247 24 (cellsOf (rootS l)), .own 24 32 vv237 (l.length + 1) (cH (l ++ ([atH l (l.length - 1)]))), .own 24 32 vv227 1 (cH ([atH l (l.length - 1)])), .arr gg16 24 (cellsOf (rootS l))] := mm249
                      refine ⟨(mm250.sub (List.Sublist.cons _ (List.Sublist.cons _ (List.Sublist.cons _ (List.Sublist.cons_cons _ List.Sublist.slnil))))), ?_⟩
                      refine kend ?_
                      refine wa_first (i := 16) (by kernel_rfl) rfl (by kernel_rfl) ?_
                      refine k0 (wt_none rfl _) rfl (.bool true) (fun _ _ => exec_move (.tmp 57) (.inr rfl) _ rfl) ?_
                      refine kend ?_
                      refine wa_end (by kernel_rfl) ?_
                      refine th_n ?_
                      refine sq ?_
                      refine cz [(0, v), (2, .bool false), (3, .pointer (some ⟨gg16, 0, none⟩)), (4, .bool (dblS l)), (5, .int .i64 ((l.length : Nat) : Int)), (6, .pointer (some ⟨gg247, 0, none⟩)), (7, .bool true), (15, .bool false), (26, .bool false)] ⟨rfl, rfl, rfl, rfl, rfl, rfl, rfl, rfl, rfl, trivial⟩ (fun _ => ?_)
                      refine rp [2, 0, 1, 1, 0, 0, 0, 0, 0, 0] ?_
                      refine kc (wt_none rfl _) rfl (x_cl0 rfl (by kernel_rfl)) (alive_any _ (ht.gr mm250.below) (Nat.le_trans h2 mm250.size)) ?_
                      rintro _ ww251 ⟨rfl, mm252⟩
                      have mm253 : Mo w ww251 [.arr gg247 24 (cellsOf (rootS l)), .own 24 32 vv237 (l.length + 1) (cH (l ++ ([atH l (l.length - 1)]))), .own 24 32 vv227 1 (cH ([atH l (l.length - 1)])), .arr gg16 24 (cellsOf (rootS l))] := mm250.gr mm252
                      refine ⟨_, rfl, trivial, ?_⟩
                      refine k0 (wt_none rfl _) rfl (.bool true) (fun _ _ => exec_move (.tmp 58) (.inl rfl) _ rfl) ?_
                      refine k1 (wt_some rfl rfl rfl rfl) rfl (.agg (cellsOf (rootS l)).toArray) (exec_load_arr Tryd.ah (.tmp 6) rfl gg247 _ (rootS_len h32) rfl (mm253.arr 0 rfl)) ?_
                      refine k1 (wt_some rfl rfl rfl rfl) rfl (.agg (cellsOf (rootS l)).toArray) (exec_load_arr Tryd.ah (.tmp 3) rfl gg16 _ (rootS_len h32) rfl (mm253.arr 3 rfl)) ?_
                      refine k0 (wt_some rfl rfl rfl rfl) rfl (.bool true) (fun _ _ => x_eqa Tryd.ah Tryd.u8 (by kernel_rfl) (.tmp 60) (.tmp 61) _ rfl (rootS l) (rootS l) (rootS_len h32) (rootS_len h32) true (decide_eq_true rfl) rfl rfl) ?_
                      refine k0 (wt_none rfl _) rfl (.bool true) (fun _ _ => x_pick (.tmp 59) (.tmp 62) (.const (.bool false)) rfl true _ rfl rfl) ?_
                      refine k0 (wt_none rfl _) rfl (.bool true) (fun _ _ => exec_move (.tmp 63) (.inl rfl) _ rfl) ?_
                      refine k0 (wt_some rfl rfl rfl rfl) rfl (.bool true) (fun _ _ => exec_move (.tmp 7) (.inl rfl) _ rfl) ?_
                      refine k0 (wt_none rfl _) rfl (.bool true) (fun _ _ => x_pick (.tmp 64) (.tmp 65) (.const (.bool false)) rfl true _ rfl rfl) ?_
                      refine k0 (wt_none rfl _) rfl (.bool true) (fun _ _ => exec_move (.tmp 66) (.inr rfl) _ rfl) ?_
                      refine kend ?_
                      refine th_n ?_
                      refine re ?_
                      refine rt1 rfl ?_
                      exact ⟨rfl, mm253.below⟩
                · refine so (o := _) rfl ?_
                  refine k2 (wt_none rfl _) rfl (x_alc Tryd.ah rfl mm240 (cellsOf (List.replicate 32 0)) rfl) ?_
                  rintro _ ww255 ⟨gg257, rfl, mm256⟩
                  refine ⟨(mm256.sub (List.Sublist.cons _ (List.Sublist.cons _ (List.Sublist.cons _ (List.Sublist.cons_cons _ List.Sublist.slnil))))), ?_⟩
                  refine kend ?_
                  refine wa_fork 10 [] (by kernel_rfl) (by kernel_rfl) ⟨?_, trivial⟩
                  · refine so (o := _) rfl ?_
                    refine kc (wt_none rfl _) rfl (x_cl1 (v0 := vv237) rfl rfl (by kernel_rfl)) (root_again vv237 l _ h32 (mm256.rc 1 rfl) hodd hlo (by omega) (ht.gr mm256.below) (Nat.le_trans h2 mm256.size)) ?_
                    rintro _ ww258 ⟨rfl, mm259⟩
                    have mm260 : Mo w ww258 [.arr gg257 24 (cellsOf (List.replicate 32 0)), .own 24 32 vv237 (l.length + 1) (cH (l ++ ([atH l (l.length - 1)]))), .own 24 32 vv227 1 (cH ([atH l (l.length - 1)])), .arr gg16 24 (cellsOf (rootS l))] := mm256.gr mm259
                    refine ⟨_, rfl, (mm260.sub (List.Sublist.cons _ (List.Sublist.cons _ (List.Sublist.cons _ (List.Sublist.cons_cons _ List.Sublist.slnil))))), ?_⟩
                    refine kend ?_
                    refine wa_first (i := 11) (by kernel_rfl) rfl (by kernel_rfl) ?_
                    refine k0 (wt_none rfl _) rfl (.tuple #[.agg (cellsOf (rootS l)).toArray, .bool true]) (fun _ _ => exec_move (.tmp 55) (.inl rfl) _ rfl) ?_
                    refine kend ?_
                    refine wa_first (i := 12) (by kernel_rfl) rfl (by kernel_rfl) ?_
                    refine k0 (wt_none rfl _) rfl (.agg (cellsOf (rootS l)).toArray) (fun _ _ => exec_extract (.tmp 44) 0 rfl [.agg (cellsOf (rootS l)).toArray, .bool true] _ rfl rfl) ?_
                    refine kend ?_
                    refine wa_first (i := 13) (by kernel_rfl) rfl (by kernel_rfl) ?_
                    refine k0 (wt_none rfl _) rfl (.bool true) (fun _ _ => exec_extract (.tmp 44) 1 rfl [.agg (cellsOf (rootS l)).toArray, .bool true] _ rfl rfl) ?_
                    refine kend ?_
                    refine wa_fork 15 [] (by kernel_rfl) (by kernel_rfl) ⟨?_, trivial⟩
                    · refine so (o := _) rfl ?_
                      refine ks (wt_none rfl _) rfl rfl (x_sta (.tmp 6) (.tmp 56) rfl mm260 0 rfl 0 (cellsOf (rootS l)) (cellsOf (rootS l)) (at_size Tryd.ah (rootS_len h32)) (sta_len (by rfl : (cellsOf (List.replicate 32 0)).length = 32) (rootS_len h32)) (cellsOf_one _) (sta_all (by rfl : (cellsOf (List.replicate 32 0)).length = 32) (rootS_len h32)) rfl (.agg (cellsOf (rootS l)).toArray) rfl rfl) ?_
                      rintro ww261 mm262
                      have mm263 : Mo w ww261 [.arr gg257 24 (cellsOf (rootS l)), .own 24 32 vv237 (l.length + 1) (cH (l ++ ([atH l (l.length - 1)]))), .own 24 32 vv227 1 (cH ([atH l (l.length - 1)])), .arr gg16 24 (cellsOf (rootS l))] := mm262
                      refine ⟨(mm263.sub (List.Sublist.cons _ (List.Sublist.cons _ (List.Sublist.cons _ (List.Sublist.cons_cons _ List.Sublist.slnil))))), ?_⟩
                      refine kend ?_
                      refine wa_first (i := 16) (by kernel_rfl) rfl (by kernel_rfl) ?_
                      refine k0 (wt_none rfl _) rfl (.bool true) (fun _ _ => exec_move (.tmp 57) (.inr rfl) _ rfl) ?_
                      refine kend ?_
                      refine wa_end (by kernel_rfl) ?_
                      refine th_n ?_
                      refine sq ?_
                      refine cz [(0, v), (2, .bool false), (3, .pointer (some ⟨gg16, 0, none⟩)), (4, .bool (dblS l)), (5, .int .i64 ((l.length : Nat) : Int)), (6, .pointer (some ⟨gg257, 0, none⟩)), (7, .bool true), (15, .bool false), (26, .bool false)] ⟨rfl, rfl, rfl, rfl, rfl, rfl, rfl, rfl, rfl, trivial⟩ (fun _ => ?_)
                      refine rp [2, 0, 1, 1, 0, 0, 0, 0, 0, 0] ?_
                      refine kc (wt_none rfl _) rfl (x_cl0 rfl (by kernel_rfl)) (alive_any _ (ht.gr mm263.below) (Nat.le_trans h2 mm263.size)) ?_
                      rintro _ ww264 ⟨rfl, mm265⟩
                      have mm266 : Mo w ww264 [.arr gg257 24 (cellsOf (rootS l)), .own 24 32 vv237 (l.length + 1) (cH (l ++ ([atH l (l.length - 1)]))), .own 24 32 vv227 1 (cH ([atH l (l.length - 1)])), .arr gg16 24 (cellsOf (rootS l))] := mm263.gr mm265
                      refine ⟨_, rfl, trivial, ?_⟩
                      refine k0 (wt_none rfl _) rfl (.bool true) (fun _ _ => exec_move (.tmp 58) (.inl rfl) _ rfl) ?_
                      refine k1 (wt_some rfl rfl rfl rfl) rfl (.agg (cellsOf (rootS l)).toArray) (exec_load_arr Tryd.ah (.tmp 6) rfl gg257 _ (rootS_len h32) rfl (mm266.arr 0 rfl)) ?_
                      refine k1 (wt_some rfl rfl rfl rfl) rfl (.agg (cellsOf (rootS l)).toArray) (exec_load_arr Tryd.ah (.tmp 3) rfl gg16 _ (rootS_len h32) rfl (mm266.arr 3 rfl)) ?_
                      refine k0 (wt_some rfl rfl rfl rfl) rfl (.bool true) (fun _ _ => x_eqa Tryd.ah Tryd.u8 (by kernel_rfl) (.tmp 60) (.tmp 61) _ rfl (rootS l) (rootS l) (rootS_len h32) (rootS_len h32) true (decide_eq_true rfl) rfl rfl) ?_
                      refine k0 (wt_none rfl _) rfl (.bool true) (fun _ _ => x_pick (.tmp 59) (.tmp 62) (.const (.bool false)) rfl true _ rfl rfl) ?_
                      refine k0 (wt_none rfl _) rfl (.bool true) (fun _ _ => exec_move (.tmp 63) (.inl rfl) _ rfl) ?_
                      refine k0 (wt_some rfl rfl rfl rfl) rfl (.bool true) (fun _ _ => exec_move (.tmp 7) (.inl rfl) _ rfl) ?_
                      refine k0 (wt_none rfl _) rfl (.bool true) (fun _ _ => x_pick (.tmp 64) (.tmp 65) (.const (.bool false)) rfl true _ rfl rfl) ?_
                      refine k0 (wt_none rfl _) rfl (.bool true) (fun _ _ => exec_move (.tmp 66) (.inr rfl) _ rfl) ?_
                      refine kend ?_
                      refine th_n ?_
                      refine re ?_
                      refine rt1 rfl ?_
                      exact ⟨rfl, mm266.below⟩
              · refine so (o := _) rfl ?_
                refine k2 (wt_none rfl _) rfl (x_alc Tryd.ah rfl mm236 (cellsOf (List.replicate 32 0)) rfl) ?_
                rintro _ ww268 ⟨gg270, rfl, mm269⟩
                refine ⟨(mm269.sub (List.Sublist.cons _ (List.Sublist.cons _ (List.Sublist.cons _ (List.Sublist.cons_cons _ List.Sublist.slnil))))), ?_⟩
                refine kend ?_
                refine wa_fork 9 [] (by kernel_rfl) (by kernel_rfl) ⟨?_, trivial⟩
                · refine so (o := _) rfl ?_
                  refine k2 (wt_none rfl _) rfl (x_app Tryd.sh (.tmp 47) (.tmp 53) rfl mm269 1 rfl rfl (mm269.rc 2 rfl) (cH_len (H32.one (len_of (by rw [cellsOf_length]; exact H32.at h32 (by omega)))) rfl) (cH_one _) (by omega) rfl) ?_
                  rintro vv271 ww272 mm273
                  have mm274 : Mo w ww272 [.arr gg270 24 (cellsOf (List.replicate 32 0)), .own 24 32 vv271 (l.length + 1) (cH (l ++ ([atH l (l.length - 1)]))), .own 24 32 vv227 1 (cH ([atH l (l.length - 1)])), .arr gg16 24 (cellsOf (rootS l))] := (by have h := mm273; rw [← cH_append] at h; exact h)
                  refine ⟨(mm274.sub (List.Sublist.cons _ (List.Sublist.cons _ (List.Sublist.cons _ (List.Sublist.cons_cons _ List.Sublist.slnil))))), ?_⟩
                  refine kend ?_
                  refine wa_fork 10 [] (by kernel_rfl) (by kernel_rfl) ⟨?_, trivial⟩
                  · refine so (o := _) rfl ?_
                    refine kc (wt_none rfl _) rfl (x_cl1 (v0 := vv271) rfl rfl (by kernel_rfl)) (root_again vv271 l _ h32 (mm274.rc 1 rfl) hodd hlo (by omega) (ht.gr mm274.below) (Nat.le_trans h2 mm274.size)) ?_
                    rintro _ ww275 ⟨rfl, mm276⟩
                    have mm277 : Mo w ww275 [.arr gg270 24 (cellsOf (List.replicate 32 0)), .own 24 32 vv271 (l.length + 1) (cH (l ++ ([atH l (l.length - 1)]))), .own 24 32 vv227 1 (cH ([atH l (l.length - 1)])), .arr gg16 24 (cellsOf (rootS l))] := mm274.gr mm276
                    refine ⟨_, rfl, (mm277.sub (List.Sublist.cons _ (List.Sublist.cons _ (List.Sublist.cons _ (List.Sublist.cons_cons _ List.Sublist.slnil))))), ?_⟩
                    refine kend ?_
                    refine wa_first (i := 11) (by kernel_rfl) rfl (by kernel_rfl) ?_
                    refine k0 (wt_none rfl _) rfl (.tuple #[.agg (cellsOf (rootS l)).toArray, .bool true]) (fun _ _ => exec_move (.tmp 55) (.inl rfl) _ rfl) ?_
                    refine kend ?_
                    refine wa_first (i := 12) (by kernel_rfl) rfl (by kernel_rfl) ?_
                    refine k0 (wt_none rfl _) rfl (.agg (cellsOf (rootS l)).toArray) (fun _ _ => exec_extract (.tmp 44) 0 rfl [.agg (cellsOf (rootS l)).toArray, .bool true] _ rfl rfl) ?_
                    refine kend ?_
                    refine wa_first (i := 13) (by kernel_rfl) rfl (by kernel_rfl) ?_
                    refine k0 (wt_none rfl _) rfl (.bool true) (fun _ _ => exec_extract (.tmp 44) 1 rfl [.agg (cellsOf (rootS l)).toArray, .bool true] _ rfl rfl) ?_
                    refine kend ?_
                    refine wa_fork 15 [] (by kernel_rfl) (by kernel_rfl) ⟨?_, trivial⟩
                    · refine so (o := _) rfl ?_
                      refine ks (wt_none rfl _) rfl rfl (x_sta (.tmp 6) (.tmp 56) rfl mm277 0 rfl 0 (cellsOf (rootS l)) (cellsOf (rootS l)) (at_size Tryd.ah (rootS_len h32)) (sta_len (by rfl : (cellsOf (List.replicate 32 0)).length = 32) (rootS_len h32)) (cellsOf_one _) (sta_all (by rfl : (cellsOf (List.replicate 32 0)).length = 32) (rootS_len h32)) rfl (.agg (cellsOf (rootS l)).toArray) rfl rfl) ?_
                      rintro ww278 mm279
                      have mm280 : Mo w ww278 [.arr gg270 24 (cellsOf (rootS l)), .own 24 32 vv271 (l.length + 1) (cH (l ++ ([atH l (l.length - 1)]))), .own 24 32 vv227 1 (cH ([atH l (l.length - 1)])), .arr gg16 24 (cellsOf (rootS l))] := mm279
                      refine ⟨(mm280.sub (List.Sublist.cons _ (List.Sublist.cons _ (List.Sublist.cons _ (List.Sublist.cons_cons _ List.Sublist.slnil))))), ?_⟩
                      refine kend ?_
                      refine wa_first (i := 16) (by kernel_rfl) rfl (by kernel_rfl) ?_
                      refine k0 (wt_none rfl _) rfl (.bool true) (fun _ _ => exec_move (.tmp 57) (.inr rfl) _ rfl) ?_
                      refine kend ?_
                      refine wa_end (by kernel_rfl) ?_
                      refine th_n ?_
                      refine sq ?_
                      refine cz [(0, v), (2, .bool false), (3, .pointer (some ⟨gg16, 0, none⟩)), (4, .bool (dblS l)), (5, .int .i64 ((l.length : Nat) : Int)), (6, .pointer (some ⟨gg270, 0, none⟩)), (7, .bool true), (15, .bool false), (26, .bool false)] ⟨rfl, rfl, rfl, rfl, rfl, rfl, rfl, rfl, rfl, trivial⟩ (fun _ => ?_)
                      refine rp [2, 0, 1, 1, 0, 0, 0, 0, 0, 0] ?_
                      refine kc (wt_none rfl _) rfl (x_cl0 rfl (by kernel_rfl)) (alive_any _ (ht.gr mm280.below) (Nat.le_trans h2 mm280.size)) ?_
                      rintro _ ww281 ⟨rfl, mm282⟩
                      have mm283 : Mo w ww281 [.arr gg270 24 (cellsOf (rootS l)), .own 24 32 vv271 (l.length + 1) (cH (l ++ ([atH l (l.length - 1)]))), .own 24 32 vv227 1 (cH ([atH l (l.length - 1)])), .arr gg16 24 (cellsOf (rootS l))] := mm280.gr mm282
                      refine ⟨_, rfl, trivial, ?_⟩
                      refine k0 (wt_none rfl _) rfl (.bool true) (fun _ _ => exec_move (.tmp 58) (.inl rfl) _ rfl) ?_
                      refine k1 (wt_some rfl rfl rfl rfl) rfl (.agg (cellsOf (rootS l)).toArray) (exec_load_arr Tryd.ah (.tmp 6) rfl gg270 _ (rootS_len h32) rfl (mm283.arr 0 rfl)) ?_
                      refine k1 (wt_some rfl rfl rfl rfl) rfl (.agg (cellsOf (rootS l)).toArray) (exec_load_arr Tryd.ah (.tmp 3) rfl gg16 _ (rootS_len h32) rfl (mm283.arr 3 rfl)) ?_
                      refine k0 (wt_some rfl rfl rfl rfl) rfl (.bool true) (fun _ _ => x_eqa Tryd.ah Tryd.u8 (by kernel_rfl) (.tmp 60) (.tmp 61) _ rfl (rootS l) (rootS l) (rootS_len h32) (rootS_len h32) true (decide_eq_true rfl) rfl rfl) ?_
                      refine k0 (wt_none rfl _) rfl (.bool true) (fun _ _ => x_pick (.tmp 59) (.tmp 62) (.const (.bool false)) rfl true _ rfl rfl) ?_
                      refine k0 (wt_none rfl _) rfl (.bool true) (fun _ _ => exec_move (.tmp 63) (.inl rfl) _ rfl) ?_
                      refine k0 (wt_some rfl rfl rfl rfl) rfl (.bool true) (fun _ _ => exec_move (.tmp 7) (.inl rfl) _ rfl) ?_
                      refine k0 (wt_none rfl _) rfl (.bool true) (fun _ _ => x_pick (.tmp 64) (.tmp 65) (.const (.bool false)) rfl true _ rfl rfl) ?_
                      refine k0 (wt_none rfl _) rfl (.bool true) (fun _ _ => exec_move (.tmp 66) (.inr rfl) _ rfl) ?_
                      refine kend ?_
                      refine th_n ?_
                      refine re ?_
                      refine rt1 rfl ?_
                      exact ⟨rfl, mm283.below⟩
            · refine so (o := _) rfl ?_
              refine k2 (wt_none rfl _) rfl (x_alc Tryd.ah rfl mm232 (cellsOf (List.replicate 32 0)) rfl) ?_
              rintro _ ww285 ⟨gg287, rfl, mm286⟩
              refine ⟨(mm286.sub (List.Sublist.cons _ (List.Sublist.cons _ (List.Sublist.cons _ (List.Sublist.cons_cons _ List.Sublist.slnil))))), ?_⟩
              refine kend ?_
              refine wa_fork 2 [] (by kernel_rfl) (by kernel_rfl) ⟨?_, trivial⟩
              · refine so (o := _) rfl ?_
                refine k2 (wt_none rfl _) rfl (x_app Tryd.sh (.tmp 45) (.tmp 46) rfl mm286 1 rfl rfl (Rc.at hv mm286) (cH_len h32 (by first | rfl | omega)) (cH_one _) (by omega) rfl) ?_
                rintro vv288 ww289 mm290
                have mm291 : Mo w ww289 [.arr gg287 24 (cellsOf (List.replicate 32 0)), .own 24 32 vv288 l.length (cH l), .own 24 32 vv227 1 (cH ([atH l (l.length - 1)])), .arr gg16 24 (cellsOf (rootS l))] := (by have h := mm290; rw [List.nil_append, Nat.zero_add] at h; exact h)
                refine ⟨(mm291.sub (List.Sublist.cons _ (List.Sublist.cons _ (List.Sublist.cons _ (List.Sublist.cons_cons _ List.Sublist.slnil))))), ?_⟩
                refine kend ?_
                refine wa_fork 9 [] (by kernel_rfl) (by kernel_rfl) ⟨?_, trivial⟩
                · refine so (o := _) rfl ?_
                  refine k2 (wt_none rfl _) rfl (x_app Tryd.sh (.tmp 47) (.tmp 53) rfl mm291 1 rfl rfl (mm291.rc 2 rfl) (cH_len (H32.one (len_of (by rw [cellsOf_length]; exact H32.at h32 (by omega)))) rfl) (cH_one _) (by omega) rfl) ?_
                  rintro vv292 ww293 mm294
                  have mm295 : Mo w ww293 [.arr gg287 24 (cellsOf (List.replicate 32 0)), .own 24 32 vv292 (l.length + 1) (cH (l ++ ([atH l (l.length - 1)]))), .own 24 32 vv227 1 (cH ([atH l (l.length - 1)])), .arr gg16 24 (cellsOf (rootS l))] := (by have h := mm294; rw [← cH_append] at h; exact h)
                  refine ⟨(mm295.sub (List.Sublist.cons _ (List.Sublist.cons _ (List.Sublist.cons _ (List.Sublist.cons_cons _ List.Sublist.slnil))))), ?_⟩
                  refine kend ?_
                  refine wa_fork 10 [] (by kernel_rfl) (by kernel_rfl) ⟨?_, trivial⟩
                  · refine so (o := _) rfl ?_
                    refine kc (wt_none rfl _) rfl (x_cl1 (v0 := vv292) rfl rfl (by kernel_rfl)) (root_again vv292 l _ h32 (mm295.rc 1 rfl) hodd hlo (by omega) (ht.gr mm295.below) (Nat.le_trans h2 mm295.size)) ?_
                    rintro _ ww296 ⟨rfl, mm297⟩
                    have mm298 : Mo w ww296 [.arr gg287 24 (cellsOf (List.replicate 32 0)), .own 24 32 vv292 (l.length + 1) (cH (l ++ ([atH l (l.length - 1)]))), .own 24 32 vv227 1 (cH ([atH l (l.length - 1)])), .arr gg16 24 (cellsOf (rootS l))] := mm295.gr mm297
                    refine ⟨_, rfl, (mm298.sub (List.Sublist.cons _ (List.Sublist.cons _ (List.Sublist.cons _ (List.Sublist.cons_cons _ List.Sublist.slnil))))), ?_⟩
                    refine kend ?_
                    refine wa_first (i := 11) (by kernel_rfl) rfl (by kernel_rfl) ?_
                    refine k0 (wt_none rfl _) rfl (.tuple #[.agg (cellsOf (rootS l)).toArray, .bool true]) (fun _ _ => exec_move (.tmp 55) (.inl rfl) _ rfl) ?_
                    refine kend ?_
                    refine wa_first (i := 12) (by kernel_rfl) rfl (by kernel_rfl) ?_
                    refine k0 (wt_none rfl _) rfl (.agg (cellsOf (rootS l)).toArray) (fun _ _ => exec_extract (.tmp 44) 0 rfl [.agg (cellsOf (rootS l)).toArray, .bool true] _ rfl rfl) ?_
                    refine kend ?_
                    refine wa_first (i := 13) (by kernel_rfl) rfl (by kernel_rfl) ?_
                    refine k0 (wt_none rfl _) rfl (.bool true) (fun _ _ => exec_extract (.tmp 44) 1 rfl [.agg (cellsOf (rootS l)).toArray, .bool true] _ rfl rfl) ?_
                    refine kend ?_
                    refine wa_fork 15 [] (by kernel_rfl) (by kernel_rfl) ⟨?_, trivial⟩
                    · refine so (o := _) rfl ?_
                      refine ks (wt_none rfl _) rfl rfl (x_sta (.tmp 6) (.tmp 56) rfl mm298 0 rfl 0 (cellsOf (rootS l)) (cellsOf (rootS l)) (at_size Tryd.ah (rootS_len h32)) (sta_len (by rfl : (cellsOf (List.replicate 32 0)).length = 32) (rootS_len h32)) (cellsOf_one _) (sta_all (by rfl : (cellsOf (List.replicate 32 0)).length = 32) (rootS_len h32)) rfl (.agg (cellsOf (rootS l)).toArray) rfl rfl) ?_
                      rintro ww299 mm300
                      have mm301 : Mo w ww299 [.arr gg287 24 (cellsOf (rootS l)), .own 24 32 vv292 (l.length + 1) (cH (l ++ ([atH l (l.length - 1)]))), .own 24 32 vv227 1 (cH ([atH l (l.length - 1)])), .arr gg16 24 (cellsOf (rootS l))] := mm300
                      refine ⟨(mm301.sub (List.Sublist.cons _ (List.Sublist.cons _ (List.Sublist.cons _ (List.Sublist.cons_cons _ List.Sublist.slnil))))), ?_⟩
                      refine kend ?_
                      refine wa_first (i := 16) (by kernel_rfl) rfl (by kernel_rfl) ?_
                      refine k0 (wt_none rfl _) rfl (.bool true) (fun _ _ => exec_move (.tmp 57) (.inr rfl) _ rfl) ?_
                      refine kend ?_
                      refine wa_end (by kernel_rfl) ?_
                      refine th_n ?_
                      refine sq ?_
                      refine cz [(0, v), (2, .bool false), (3, .pointer (some ⟨gg16, 0, none⟩)), (4, .bool (dblS l)), (5, .int .i64 ((l.length : Nat) : Int)), (6, .pointer (some ⟨gg287, 0, none⟩)), (7, .bool true), (15, .bool false), (26, .bool false)] ⟨rfl, rfl, rfl, rfl, rfl, rfl, rfl, rfl, rfl, trivial⟩ (fun _ => ?_)
                      refine rp [2, 0, 1, 1, 0, 0, 0, 0, 0, 0] ?_
                      refine kc (wt_none rfl _) rfl (x_cl0 rfl (by kernel_rfl)) (alive_any _ (ht.gr mm301.below) (Nat.le_trans h2 mm301.size)) ?_
                      rintro _ ww302 ⟨rfl, mm303⟩
                      have mm304 : Mo w ww302 [.arr gg287 24 (cellsOf (rootS l)), .own 24 32 vv292 (l.length + 1) (cH (l ++ ([atH l (l.length - 1)]))), .own 24 32 vv227 1 (cH ([atH l (l.length - 1)])), .arr gg16 24 (cellsOf (rootS l))] := mm301.gr mm303
                      refine ⟨_, rfl, trivial, ?_⟩
                      refine k0 (wt_none rfl _) rfl (.bool true) (fun _ _ => exec_move (.tmp 58) (.inl rfl) _ rfl) ?_
                      refine k1 (wt_some rfl rfl rfl rfl) rfl (.agg (cellsOf (rootS l)).toArray) (exec_load_arr Tryd.ah (.tmp 6) rfl gg287 _ (rootS_len h32) rfl (mm304.arr 0 rfl)) ?_
                      refine k1 (wt_some rfl rfl rfl rfl) rfl (.agg (cellsOf (rootS l)).toArray) (exec_load_arr Tryd.ah (.tmp 3) rfl gg16 _ (rootS_len h32) rfl (mm304.arr 3 rfl)) ?_
                      refine k0 (wt_some rfl rfl rfl rfl) rfl (.bool true) (fun _ _ => x_eqa Tryd.ah Tryd.u8 (by kernel_rfl) (.tmp 60) (.tmp 61) _ rfl (rootS l) (rootS l) (rootS_len h32) (rootS_len h32) true (decide_eq_true rfl) rfl rfl) ?_
                      refine k0 (wt_none rfl _) rfl (.bool true) (fun _ _ => x_pick (.tmp 59) (.tmp 62) (.const (.bool false)) rfl true _ rfl rfl) ?_
                      refine k0 (wt_none rfl _) rfl (.bool true) (fun _ _ => exec_move (.tmp 63) (.inl rfl) _ rfl) ?_
                      refine k0 (wt_some rfl rfl rfl rfl) rfl (.bool true) (fun _ _ => exec_move (.tmp 7) (.inl rfl) _ rfl) ?_
                      refine k0 (wt_none rfl _) rfl (.bool true) (fun _ _ => x_pick (.tmp 64) (.tmp 65) (.const (.bool false)) rfl true _ rfl rfl) ?_
                      refine k0 (wt_none rfl _) rfl (.bool true) (fun _ _ => exec_move (.tmp 66) (.inr rfl) _ rfl) ?_
                      refine kend ?_
                      refine th_n ?_
                      refine re ?_
                      refine rt1 rfl ?_
                      exact ⟨rfl, mm304.below⟩
          · refine so (o := _) rfl ?_
            refine k2 (wt_none rfl _) rfl (x_alc Tryd.ah rfl mm229 (cellsOf (List.replicate 32 0)) rfl) ?_
            rintro _ ww306 ⟨gg308, rfl, mm307⟩
            refine ⟨(mm307.sub (List.Sublist.cons _ (List.Sublist.cons _ (List.Sublist.cons_cons _ List.Sublist.slnil)))), ?_⟩
            refine kend ?_
            refine wa_fork 0 [] (by kernel_rfl) (by kernel_rfl) ⟨?_, trivial⟩
            · refine so (o := _) rfl ?_
              refine k2 (wt_none rfl _) rfl (x_bld Tryd.sh 0 _ rfl mm307 [] [] rfl (by decide) (fun _ h => absurd h List.not_mem_nil) rfl rfl) ?_
              rintro vv309 ww310 mm311
              refine ⟨(mm311.sub (List.Sublist.cons _ (List.Sublist.cons _ (List.Sublist.cons _ (List.Sublist.cons_cons _ List.Sublist.slnil))))), ?_⟩
              refine kend ?_
              refine wa_fork 2 [] (by kernel_rfl) (by kernel_rfl) ⟨?_, trivial⟩
              · refine so (o := _) rfl ?_
                refine k2 (wt_none rfl _) rfl (x_app Tryd.sh (.tmp 45) (.tmp 46) rfl mm311 0 rfl rfl (Rc.at hv mm311) (cH_len h32 (by first | rfl | omega)) (cH_one _) (by omega) rfl) ?_
                rintro vv312 ww313 mm314
                have mm315 : Mo w ww313 [.own 24 32 vv312 l.length (cH l), .arr gg308 24 (cellsOf (List.replicate 32 0)), .own 24 32 vv227 1 (cH ([atH l (l.length - 1)])), .arr gg16 24 (cellsOf (rootS l))] := (by have h := mm314; rw [List.nil_append, Nat.zero_add] at h; exact h)
                refine ⟨(mm315.sub (List.Sublist.cons _ (List.Sublist.cons _ (List.Sublist.cons _ (List.Sublist.cons_cons _ List.Sublist.slnil))))), ?_⟩
                refine kend ?_
                refine wa_fork 9 [] (by kernel_rfl) (by kernel_rfl) ⟨?_, trivial⟩
                · refine so (o := _) rfl ?_
                  refine k2 (wt_none rfl _) rfl (x_app Tryd.sh (.tmp 47) (.tmp 53) rfl mm315 0 rfl rfl (mm315.rc 2 rfl) (cH_len (H32.one (len_of (by rw [cellsOf_length]; exact H32.at h32 (by omega)))) rfl) (cH_one _) (by omega) rfl) ?_
                  rintro vv316 ww317 mm318
                  have mm319 : Mo w ww317 [.own 24 32 vv316 (l.length + 1) (cH (l ++ ([atH l (l.length - 1)]))), .arr gg308 24 (cellsOf (List.replicate 32 0)), .own 24 32 vv227 1 (cH ([atH l (l.length - 1)])), .arr gg16 24 (cellsOf (rootS l))] := (by have h := mm318; rw [← cH_append] at h; exact h)
                  refine ⟨(mm319.sub (List.Sublist.cons _ (List.Sublist.cons _ (List.Sublist.cons _ (List.Sublist.cons_cons _ List.Sublist.slnil))))), ?_⟩
                  refine kend ?_
                  refine wa_fork 10 [] (by kernel_rfl) (by kernel_rfl) ⟨?_, trivial⟩
                  · refine so (o := _) rfl ?_
                    refine kc (wt_none rfl _) rfl (x_cl1 (v0 := vv316) rfl rfl (by kernel_rfl)) (root_again vv316 l _ h32 (mm319.rc 0 rfl) hodd hlo (by omega) (ht.gr mm319.below) (Nat.le_trans h2 mm319.size)) ?_
                    rintro _ ww320 ⟨rfl, mm321⟩
                    have mm322 : Mo w ww320 [.own 24 32 vv316 (l.length + 1) (cH (l ++ ([atH l (l.length - 1)]))), .arr gg308 24 (cellsOf (List.replicate 32 0)), .own 24 32 vv227 1 (cH ([atH l (l.length - 1)])), .arr gg16 24 (cellsOf (rootS l))] := mm319.gr mm321
                    refine ⟨_, rfl, (mm322.sub (List.Sublist.cons _ (List.Sublist.cons _ (List.Sublist.cons _ (List.Sublist.cons_cons _ List.Sublist.slnil))))), ?_⟩
                    refine kend ?_
                    refine wa_first (i := 11) (by kernel_rfl) rfl (by kernel_rfl) ?_
                    refine k0 (wt_none rfl _) rfl (.tuple #[.agg (cellsOf (rootS l)).toArray, .bool true]) (fun _ _ => exec_move (.tmp 55) (.inl rfl) _ rfl) ?_
                    refine kend ?_
                    refine wa_first (i := 12) (by kernel_rfl) rfl (by kernel_rfl) ?_
                    refine k0 (wt_none rfl _) rfl (.agg (cellsOf (rootS l)).toArray) (fun _ _ => exec_extract (.tmp 44) 0 rfl [.agg (cellsOf (rootS l)).toArray, .bool true] _ rfl rfl) ?_
                    refine kend ?_
                    refine wa_first (i := 13) (by kernel_rfl) rfl (by kernel_rfl) ?_
                    refine k0 (wt_none rfl _) rfl (.bool true) (fun _ _ => exec_extract (.tmp 44) 1 rfl [.agg (cellsOf (rootS l)).toArray, .bool true] _ rfl rfl) ?_
                    refine kend ?_
                    refine wa_fork 15 [] (by kernel_rfl) (by kernel_rfl) ⟨?_, trivial⟩
                    · refine so (o := _) rfl ?_
                      refine ks (wt_none rfl _) rfl rfl (x_sta (.tmp 6) (.tmp 56) rfl mm322 1 rfl 0 (cellsOf (rootS l)) (cellsOf (rootS l)) (at_size Tryd.ah (rootS_len h32)) (sta_len (by rfl : (cellsOf (List.replicate 32 0)).length = 32) (rootS_len h32)) (cellsOf_one _) (sta_all (by rfl : (cellsOf (List.replicate 32 0)).length = 32) (rootS_len h32)) rfl (.agg (cellsOf (rootS l)).toArray) rfl rfl) ?_
                      rintro ww323 mm324
                      have mm325 : Mo w ww323 [.own 24 32 vv316 (l.length + 1) (cH (l ++ ([atH l (l.length - 1)]))), .arr gg308 24 (cellsOf (rootS l)), .own 24 32 vv227 1 (cH ([atH l (l.length - 1)])), .arr gg16 24 (cellsOf (rootS l))] := mm324
                      refine ⟨(mm325.sub (List.Sublist.cons _ (List.Sublist.cons _ (List.Sublist.cons _ (List.Sublist.cons_cons _ List.Sublist.slnil))))), ?_⟩
                      refine kend ?_
                      refine wa_first (i := 16) (by kernel_rfl) rfl (by kernel_rfl) ?_
                      refine k0 (wt_none rfl _) rfl (.bool true) (fun _ _ => exec_move (.tmp 57) (.inr rfl) _ rfl) ?_
                      refine kend ?_
                      refine wa_end (by kernel_rfl) ?_
                      refine th_n ?_
                      refine sq ?_
                      refine cz [(0, v), (2, .bool false), (3, .pointer (some ⟨gg16, 0, none⟩)), (4, .bool (dblS l)), (5, .int .i64 ((l.length : Nat) : Int)), (6, .pointer (some ⟨gg308, 0, none⟩)), (7, .bool true), (15, .bool false), (26, .bool false)] ⟨rfl, rfl, rfl, rfl, rfl, rfl, rfl, rfl, rfl, trivial⟩ (fun _ => ?_)
                      refine rp [2, 0, 1, 1, 0, 0, 0, 0, 0, 0] ?_
                      refine kc (wt_none rfl _) rfl (x_cl0 rfl (by kernel_rfl)) (alive_any _ (ht.gr mm325.below) (Nat.le_trans h2 mm325.size)) ?_
                      rintro _ ww326 ⟨rfl, mm327⟩
                      have mm328 : Mo w ww326 [.own 24 32 vv316 (l.length + 1) (cH (l ++ ([atH l (l.length - 1)]))), .arr gg308 24 (cellsOf (rootS l)), .own 24 32 vv227 1 (cH ([atH l (l.length - 1)])), .arr gg16 24 (cellsOf (rootS l))] := mm325.gr mm327
                      refine ⟨_, rfl, trivial, ?_⟩
                      refine k0 (wt_none rfl _) rfl (.bool true) (fun _ _ => exec_move (.tmp 58) (.inl rfl) _ rfl) ?_
                      refine k1 (wt_some rfl rfl rfl rfl) rfl (.agg (cellsOf (rootS l)).toArray) (exec_load_arr Tryd.ah (.tmp 6) rfl gg308 _ (rootS_len h32) rfl (mm328.arr 1 rfl)) ?_
                      refine k1 (wt_some rfl rfl rfl rfl) rfl (.agg (cellsOf (rootS l)).toArray) (exec_load_arr Tryd.ah (.tmp 3) rfl gg16 _ (rootS_len h32) rfl (mm328.arr 3 rfl)) ?_
                      refine k0 (wt_some rfl rfl rfl rfl) rfl (.bool true) (fun _ _ => x_eqa Tryd.ah Tryd.u8 (by kernel_rfl) (.tmp 60) (.tmp 61) _ rfl (rootS l) (rootS l) (rootS_len h32) (rootS_len h32) true (decide_eq_true rfl) rfl rfl) ?_
                      refine k0 (wt_none rfl _) rfl (.bool true) (fun _ _ => x_pick (.tmp 59) (.tmp 62) (.const (.bool false)) rfl true _ rfl rfl) ?_
                      refine k0 (wt_none rfl _) rfl (.bool true) (fun _ _ => exec_move (.tmp 63) (.inl rfl) _ rfl) ?_
                      refine k0 (wt_some rfl rfl rfl rfl) rfl (.bool true) (fun _ _ => exec_move (.tmp 7) (.inl rfl) _ rfl) ?_
                      refine k0 (wt_none rfl _) rfl (.bool true) (fun _ _ => x_pick (.tmp 64) (.tmp 65) (.const (.bool false)) rfl true _ rfl rfl) ?_
                      refine k0 (wt_none rfl _) rfl (.bool true) (fun _ _ => exec_move (.tmp 66) (.inr rfl) _ rfl) ?_
                      refine kend ?_
                      refine th_n ?_
                      refine re ?_
                      refine rt1 rfl ?_
                      exact ⟨rfl, mm328.below⟩
        · refine so (o := _) rfl ?_
          refine k2 (wt_none rfl _) rfl (x_alc Tryd.ah rfl mm30 (cellsOf (List.replicate 32 0)) rfl) ?_
          rintro _ ww330 ⟨gg332, rfl, mm331⟩
          refine ⟨(mm331.sub (List.Sublist.cons _ (List.Sublist.cons_cons _ List.Sublist.slnil))), ?_⟩
          refine kend ?_
          refine wa_fork 0 [8] (by kernel_rfl) (by kernel_rfl) ⟨?_, ?_, trivial⟩
          · refine so (o := _) rfl ?_
            refine k2 (wt_none rfl _) rfl (x_bld Tryd.sh 0 _ rfl mm331 [] [] rfl (by decide) (fun _ h => absurd h List.not_mem_nil) rfl rfl) ?_
            rintro vv333 ww334 mm335
            refine ⟨(mm335.sub (List.Sublist.cons _ (List.Sublist.cons _ (List.Sublist.cons_cons _ List.Sublist.slnil)))), ?_⟩
            refine kend ?_
            refine wa_fork 2 [8] (by kernel_rfl) (by kernel_rfl) ⟨?_, ?_, trivial⟩
            · refine so (o := _) rfl ?_
              refine k2 (wt_none rfl _) rfl (x_app Tryd.sh (.tmp 45) (.tmp 46) rfl mm335 0 rfl rfl (Rc.at hv mm335) (cH_len h32 (by first | rfl | omega)) (cH_one _) (by omega) rfl) ?_
              rintro vv336 ww337 mm338
              have mm339 : Mo w ww337 [.own 24 32 vv336 l.length (cH l), .arr gg332 24 (cellsOf (List.replicate 32 0)), .arr gg16 24 (cellsOf (rootS l))] := (by have h := mm338; rw [List.nil_append, Nat.zero_add] at h; exact h)
              refine ⟨(mm339.sub (List.Sublist.cons _ (List.Sublist.cons _ (List.Sublist.cons_cons _ List.Sublist.slnil)))), ?_⟩
              refine kend ?_
              refine wa_fork 8 [] (by kernel_rfl) (by kernel_rfl) ⟨?_, trivial⟩
              · refine so (o := _) rfl ?_
                refine k2 (wt_none rfl _) rfl (x_bld Tryd.sh 1 _ rfl mm339 (vH [atH l (l.length - 1)]) (cH [atH l (l.length - 1)]) rfl (by decide) (vH_size (H32.one (len_of (by rw [cellsOf_length]; exact H32.at h32 (by omega))))) (vH_flat [atH l (l.length - 1)]) rfl) ?_
                rintro vv340 ww341 mm342
                refine ⟨(mm342.sub (List.Sublist.cons _ (List.Sublist.cons _ (List.Sublist.cons _ (List.Sublist.cons_cons _ List.Sublist.slnil))))), ?_⟩
                refine kend ?_
                refine wa_fork 9 [] (by kernel_rfl) (by kernel_rfl) ⟨?_, trivial⟩
                · refine so (o := _) rfl ?_
                  refine k2 (wt_none rfl _) rfl (x_app Tryd.sh (.tmp 47) (.tmp 53) rfl mm342 1 rfl rfl (mm342.rc 0 rfl) (cH_len (H32.one (len_of (by rw [cellsOf_length]; exact H32.at h32 (by omega)))) rfl) (cH_one _) (by omega) rfl) ?_
                  rintro vv343 ww344 mm345
                  have mm346 : Mo w ww344 [.own 24 32 vv340 1 (cH ([atH l (l.length - 1)])), .own 24 32 vv343 (l.length + 1) (cH (l ++ ([atH l (l.length - 1)]))), .arr gg332 24 (cellsOf (List.replicate 32 0)), .arr gg16 24 (cellsOf (rootS l))] := (by have h := mm345; rw [← cH_append] at h; exact h)
                  refine ⟨(mm346.sub (List.Sublist.cons _ (List.Sublist.cons _ (List.Sublist.cons _ (List.Sublist.cons_cons _ List.Sublist.slnil))))), ?_⟩
                  refine kend ?_
                  refine wa_fork 10 [] (by kernel_rfl) (by kernel_rfl) ⟨?_, trivial⟩
                  · refine so (o := _) rfl ?_
                    refine kc (wt_none rfl _) rfl (x_cl1 (v0 := vv343) rfl rfl (by kernel_rfl)) (root_again vv343 l _ h32 (mm346.rc 1 rfl) hodd hlo (by omega) (ht.gr mm346.below) (Nat.le_trans h2 mm346.size)) ?_
                    rintro _ ww347 ⟨rfl, mm348⟩
                    have mm349 : Mo w ww347 [.own 24 32 vv340 1 (cH ([atH l (l.length - 1)])), .own 24 32 vv343 (l.length + 1) (cH (l ++ ([atH l (l.length - 1)]))), .arr gg332 24 (cellsOf (List.replicate 32 0)), .arr gg16 24 (cellsOf (rootS l))] := mm346.gr mm348
                    refine ⟨_, rfl, (mm349.sub (List.Sublist.cons _ (List.Sublist.cons _ (List.Sublist.cons _ (List.Sublist.cons_cons _ List.Sublist.slnil))))), ?_⟩
                    refine kend ?_
                    refine wa_first (i := 11) (by kernel_rfl) rfl (by kernel_rfl) ?_
                    refine k0 (wt_none rfl _) rfl (.tuple #[.agg (cellsOf (rootS l)).toArray, .bool true]) (fun _ _ => exec_move (.tmp 55) (.inl rfl) _ rfl) ?_
                    refine kend ?_
                    refine wa_first (i := 12) (by kernel_rfl) rfl (by kernel_rfl) ?_
                    refine k0 (wt_none rfl _) rfl (.agg (cellsOf (rootS l)).toArray) (fun _ _ => exec_extract (.tmp 44) 0 rfl [.agg (cellsOf (rootS l)).toArray, .bool true] _ rfl rfl) ?_
                    refine kend ?_
                    refine wa_first (i := 13) (by kernel_rfl) rfl (by kernel_rfl) ?_
                    refine k0 (wt_none rfl _) rfl (.bool true) (fun _ _ => exec_extract (.tmp 44) 1 rfl [.agg (cellsOf (rootS l)).toArray, .bool true] _ rfl rfl) ?_
                    refine kend ?_
                    refine wa_fork 15 [] (by kernel_rfl) (by kernel_rfl) ⟨?_, trivial⟩
                    · refine so (o := _) rfl ?_
                      refine ks (wt_none rfl _) rfl rfl (x_sta (.tmp 6) (.tmp 56) rfl mm349 2 rfl 0 (cellsOf (rootS l)) (cellsOf (rootS l)) (at_size Tryd.ah (rootS_len h32)) (sta_len (by rfl : (cellsOf (List.replicate 32 0)).length = 32) (rootS_len h32)) (cellsOf_one _) (sta_all (by rfl : (cellsOf (List.replicate 32 0)).length = 32) (rootS_len h32)) rfl (.agg (cellsOf (rootS l)).toArray) rfl rfl) ?_
                      rintro ww350 mm351
                      have mm352 : Mo w ww350 [.own 24 32 vv340 1 (cH ([atH l (l.length - 1)])), .own 24 32 vv343 (l.length + 1) (cH (l ++ ([atH l (l.length - 1)]))), .arr gg332 24 (cellsOf (rootS l)), .arr gg16 24 (cellsOf (rootS l))] := mm351
                      refine ⟨(mm352.sub (List.Sublist.cons _ (List.Sublist.cons _ (List.Sublist.cons _ (List.Sublist.cons_cons _ List.Sublist.slnil))))), ?_⟩
                      refine kend ?_
                      refine wa_first (i := 16) (by kernel_rfl) rfl (by kernel_rfl) ?_
                      refine k0 (wt_none rfl _) rfl (.bool true) (fun _ _ => exec_move (.tmp 57) (.inr rfl) _ rfl) ?_
                      refine kend ?_
                      refine wa_end (by kernel_rfl) ?_
                      refine th_n ?_
                      refine sq ?_
                      refine cz [(0, v), (2, .bool false), (3, .pointer (some ⟨gg16, 0, none⟩)), (4, .bool (dblS l)), (5, .int .i64 ((l.length : Nat) : Int)), (6, .pointer (some ⟨gg332, 0, none⟩)), (7, .bool true), (15, .bool false), (26, .bool false)] ⟨rfl, rfl, rfl, rfl, rfl, rfl, rfl, rfl, rfl, trivial⟩ (fun _ => ?_)
                      refine rp [2, 0, 1, 1, 0, 0, 0, 0, 0, 0] ?_
                      refine kc (wt_none rfl _) rfl (x_cl0 rfl (by kernel_rfl)) (alive_any _ (ht.gr mm352.below) (Nat.le_trans h2 mm352.size)) ?_
                      rintro _ ww353 ⟨rfl, mm354⟩
                      have mm355 : Mo w ww353 [.own 24 32 vv340 1 (cH ([atH l (l.length - 1)])), .own 24 32 vv343 (l.length + 1) (cH (l ++ ([atH l (l.length - 1)]))), .arr gg332 24 (cellsOf (rootS l)), .arr gg16 24 (cellsOf (rootS l))] := mm352.gr mm354
                      refine ⟨_, rfl, trivial, ?_⟩
                      refine k0 (wt_none rfl _) rfl (.bool true) (fun _ _ => exec_move (.tmp 58) (.inl rfl) _ rfl) ?_
                      refine k1 (wt_some rfl rfl rfl rfl) rfl (.agg (cellsOf (rootS l)).toArray) (exec_load_arr Tryd.ah (.tmp 6) rfl gg332 _ (rootS_len h32) rfl (mm355.arr 2 rfl)) ?_
                      refine k1 (wt_some rfl rfl rfl rfl) rfl (.agg (cellsOf (rootS l)).toArray) (exec_load_arr Tryd.ah (.tmp 3) rfl gg16 _ (rootS_len h32) rfl (mm355.arr 3 rfl)) ?_
                      refine k0 (wt_some rfl rfl rfl rfl) rfl (.bool true) (fun _ _ => x_eqa Tryd.ah Tryd.u8 (by kernel_rfl) (.tmp 60) (.tmp 61) _ rfl (rootS l) (rootS l) (rootS_len h32) (rootS_len h32) true (decide_eq_true rfl) rfl rfl) ?_
                      refine k0 (wt_none rfl _) rfl (.bool true) (fun _ _ => x_pick (.tmp 59) (.tmp 62) (.const (.bool false)) rfl true _ rfl rfl) ?_
                      refine k0 (wt_none rfl _) rfl (.bool true) (fun _ _ => exec_move (.tmp 63) (.inl rfl) _ rfl) ?_
                      refine k0 (wt_some rfl rfl rfl rfl) rfl (.bool true) (fun _ _ => exec_move (.tmp 7) (.inl rfl) _ rfl) ?_
                      refine k0 (wt_none rfl _) rfl (.bool true) (fun _ _ => x_pick (.tmp 64) (.tmp 65) (.const (.bool false)) rfl true _ rfl rfl) ?_
                      refine k0 (wt_none rfl _) rfl (.bool true) (fun _ _ => exec_move (.tmp 66) (.inr rfl) _ rfl) ?_
                      refine kend ?_
                      refine th_n ?_
                      refine re ?_
                      refine rt1 rfl ?_
                      exact ⟨rfl, mm355.below⟩
            · refine so (o := _) rfl ?_
              refine k2 (wt_none rfl _) rfl (x_bld Tryd.sh 1 _ rfl mm335 (vH [atH l (l.length - 1)]) (cH [atH l (l.length - 1)]) rfl (by decide) (vH_size (H32.one (len_of (by rw [cellsOf_length]; exact H32.at h32 (by omega))))) (vH_flat [atH l (l.length - 1)]) rfl) ?_
              rintro vv356 ww357 mm358
              refine ⟨(mm358.sub (List.Sublist.cons _ (List.Sublist.cons _ (List.Sublist.cons _ (List.Sublist.cons_cons _ List.Sublist.slnil))))), ?_⟩
              refine kend ?_
              refine wa_fork 2 [] (by kernel_rfl) (by kernel_rfl) ⟨?_, trivial⟩
              · refine so (o := _) rfl ?_
                refine k2 (wt_none rfl _) rfl (x_app Tryd.sh (.tmp 45) (.tmp 46) rfl mm358 1 rfl rfl (Rc.at hv mm358) (cH_len h32 (by first | rfl | omega)) (cH_one _) (by omega) rfl) ?_
                rintro vv359 ww360 mm361
                have mm362 : Mo w ww360 [.own 24 32 vv356 1 (cH ([atH l (l.length - 1)])), .own 24 32 vv359 l.length (cH l), .arr gg332 24 (cellsOf (List.replicate 32 0)), .arr gg16 24 (cellsOf (rootS l))] := (by have h := mm361; rw [List.nil_append, Nat.zero_add] at h; exact h)
                refine ⟨(mm362.sub (List.Sublist.cons _ (List.Sublist.cons _ (List.Sublist.cons _ (List.Sublist.cons_cons _ List.Sublist.slnil))))), ?_⟩
                refine kend ?_
                refine wa_fork 9 [] (by kernel_rfl) (by kernel_rfl) ⟨?_, trivial⟩
                · refine so (o := _) rfl ?_
                  refine k2 (wt_none rfl _) rfl (x_app Tryd.sh (.tmp 47) (.tmp 53) rfl mm362 1 rfl rfl (mm362.rc 0 rfl) (cH_len (H32.one (len_of (by rw [cellsOf_length]; exact H32.at h32 (by omega)))) rfl) (cH_one _) (by omega) rfl) ?_
                  rintro vv363 ww364 mm365
                  have mm366 : Mo w ww364 [.own 24 32 vv356 1 (cH ([atH l (l.length - 1)])), .own 24 32 vv363 (l.length + 1) (cH (l ++ ([atH l (l.length - 1)]))), .arr gg332 24 (cellsOf (List.replicate 32 0)), .arr gg16 24 (cellsOf (rootS l))] := (by have h := mm365; rw [← cH_append] at h; exact h)
                  refine ⟨(mm366.sub (List.Sublist.cons _ (List.Sublist.cons _ (List.Sublist.cons _ (List.Sublist.cons_cons _ List.Sublist.slnil))))), ?_⟩
                  refine kend ?_
                  refine wa_fork 10 [] (by kernel_rfl) (by kernel_rfl) ⟨?_, trivial⟩
                  · refine so (o := _) rfl ?_
                    refine kc (wt_none rfl _) rfl (x_cl1 (v0 := vv363) rfl rfl (by kernel_rfl)) (root_again vv363 l _ h32 (mm366.rc 1 rfl) hodd hlo (by omega) (ht.gr mm366.below) (Nat.le_trans h2 mm366.size)) ?_
                    rintro _ ww367 ⟨rfl, mm368⟩
                    have mm369 : Mo w ww367 [.own 24 32 vv356 1 (cH ([atH l (l.length - 1)])), .own 24 32 vv363 (l.length + 1) (cH (l ++ ([atH l (l.length - 1)]))), .arr gg332 24 (cellsOf (List.replicate 32 0)), .arr gg16 24 (cellsOf (rootS l))] := mm366.gr mm368
                    refine ⟨_, rfl, (mm369.sub (List.Sublist.cons _ (List.Sublist.cons _ (List.Sublist.cons _ (List.Sublist.cons_cons _ List.Sublist.slnil))))), ?_⟩
                    refine kend ?_
                    refine wa_first (i := 11) (by kernel_rfl) rfl (by kernel_rfl) ?_
                    refine k0 (wt_none rfl _) rfl (.tuple #[.agg (cellsOf (rootS l)).toArray, .bool true]) (fun _ _ => exec_move (.tmp 55) (.inl rfl) _ rfl) ?_
                    refine kend ?_
                    refine wa_first (i := 12) (by kernel_rfl) rfl (by kernel_rfl) ?_
                    refine k0 (wt_none rfl _) rfl (.agg (cellsOf (rootS l)).toArray) (fun _ _ => exec_extract (.tmp 44) 0 rfl [.agg (cellsOf (rootS l)).toArray, .bool true] _ rfl rfl) ?_
                    refine kend ?_
                    refine wa_first (i := 13) (by kernel_rfl) rfl (by kernel_rfl) ?_
                    refine k0 (wt_none rfl _) rfl (.bool true) (fun _ _ => exec_extract (.tmp 44) 1 rfl [.agg (cellsOf (rootS l)).toArray, .bool true] _ rfl rfl) ?_
                    refine kend ?_
                    refine wa_fork 15 [] (by kernel_rfl) (by kernel_rfl) ⟨?_, trivial⟩
                    · refine so (o := _) rfl ?_
                      refine ks (wt_none rfl _) rfl rfl (x_sta (.tmp 6) (.tmp 56) rfl mm369 2 rfl 0 (cellsOf (rootS l)) (cellsOf (rootS l)) (at_size Tryd.ah (rootS_len h32)) (sta_len (by rfl : (cellsOf (List.replicate 32 0)).length = 32) (rootS_len h32)) (cellsOf_one _) (sta_all (by rfl : (cellsOf (List.replicate 32 0)).length = 32) (rootS_len h32)) rfl (.agg (cellsOf (rootS l)).toArray) rfl rfl) ?_
                      rintro ww370 mm371
                      have mm372 : Mo w ww370 [.own 24 32 vv356 1 (cH ([atH l (l.length - 1)])), .own 24 32 vv363 (l.length + 1) (cH (l ++ ([atH l (l.length - 1)]))), .arr gg332 24 (cellsOf (rootS l)), .arr gg16 24 (cellsOf (rootS l))] := mm371
                      refine ⟨(mm372.sub (List.Sublist.cons _ (List.Sublist.cons _ (List.Sublist.cons _ (List.Sublist.cons_cons _ List.Sublist.slnil))))), ?_⟩
                      refine kend ?_
                      refine wa_first (i := 16) (by kernel_rfl) rfl (by kernel_rfl) ?_
                      refine k0 (wt_none rfl _) rfl (.bool true) (fun _ _ => exec_move (.tmp 57) (.inr rfl) _ rfl) ?_
                      refine kend ?_
                      refine wa_end (by kernel_rfl) ?_
                      refine th_n ?_
                      refine sq ?_
                      refine cz [(0, v), (2, .bool false), (3, .pointer (some ⟨gg16, 0, none⟩)), (4, .bool (dblS l)), (5, .int .i64 ((l.length : Nat) : Int)), (6, .pointer (some ⟨gg332, 0, none⟩)), (7, .bool true), (15, .bool false), (26, .bool false)] ⟨rfl, rfl, rfl, rfl, rfl, rfl, rfl, rfl, rfl, trivial⟩ (fun _ => ?_)
                      refine rp [2, 0, 1, 1, 0, 0, 0, 0, 0, 0] ?_
                      refine kc (wt_none rfl _) rfl (x_cl0 rfl (by kernel_rfl)) (alive_any _ (ht.gr mm372.below) (Nat.le_trans h2 mm372.size)) ?_
                      rintro _ ww373 ⟨rfl, mm374⟩
                      have mm375 : Mo w ww373 [.own 24 32 vv356 1 (cH ([atH l (l.length - 1)])), .own 24 32 vv363 (l.length + 1) (cH (l ++ ([atH l (l.length - 1)]))), .arr gg332 24 (cellsOf (rootS l)), .arr gg16 24 (cellsOf (rootS l))] := mm372.gr mm374
                      refine ⟨_, rfl, trivial, ?_⟩
                      refine k0 (wt_none rfl _) rfl (.bool true) (fun _ _ => exec_move (.tmp 58) (.inl rfl) _ rfl) ?_
                      refine k1 (wt_some rfl rfl rfl rfl) rfl (.agg (cellsOf (rootS l)).toArray) (exec_load_arr Tryd.ah (.tmp 6) rfl gg332 _ (rootS_len h32) rfl (mm375.arr 2 rfl)) ?_
                      refine k1 (wt_some rfl rfl rfl rfl) rfl (.agg (cellsOf (rootS l)).toArray) (exec_load_arr Tryd.ah (.tmp 3) rfl gg16 _ (rootS_len h32) rfl (mm375.arr 3 rfl)) ?_
                      refine k0 (wt_some rfl rfl rfl rfl) rfl (.bool true) (fun _ _ => x_eqa Tryd.ah Tryd.u8 (by kernel_rfl) (.tmp 60) (.tmp 61) _ rfl (rootS l) (rootS l) (rootS_len h32) (rootS_len h32) true (decide_eq_true rfl) rfl rfl) ?_
                      refine k0 (wt_none rfl _) rfl (.bool true) (fun _ _ => x_pick (.tmp 59) (.tmp 62) (.const (.bool false)) rfl true _ rfl rfl) ?_
                      refine k0 (wt_none rfl _) rfl (.bool true) (fun _ _ => exec_move (.tmp 63) (.inl rfl) _ rfl) ?_
                      refine k0 (wt_some rfl rfl rfl rfl) rfl (.bool true) (fun _ _ => exec_move (.tmp 7) (.inl rfl) _ rfl) ?_
                      refine k0 (wt_none rfl _) rfl (.bool true) (fun _ _ => x_pick (.tmp 64) (.tmp 65) (.const (.bool false)) rfl true _ rfl rfl) ?_
                      refine k0 (wt_none rfl _) rfl (.bool true) (fun _ _ => exec_move (.tmp 66) (.inr rfl) _ rfl) ?_
                      refine kend ?_
                      refine th_n ?_
                      refine re ?_
                      refine rt1 rfl ?_
                      exact ⟨rfl, mm375.below⟩
          · refine so (o := _) rfl ?_
            refine k2 (wt_none rfl _) rfl (x_bld Tryd.sh 1 _ rfl mm331 (vH [atH l (l.length - 1)]) (cH [atH l (l.length - 1)]) rfl (by decide) (vH_size (H32.one (len_of (by rw [cellsOf_length]; exact H32.at h32 (by omega))))) (vH_flat [atH l (l.length - 1)]) rfl) ?_
            rintro vv376 ww377 mm378
            refine ⟨(mm378.sub (List.Sublist.cons _ (List.Sublist.cons _ (List.Sublist.cons_cons _ List.Sublist.slnil)))), ?_⟩
            refine kend ?_
            refine wa_fork 0 [] (by kernel_rfl) (by kernel_rfl) ⟨?_, trivial⟩
            · refine so (o := _) rfl ?_
              refine k2 (wt_none rfl _) rfl (x_bld Tryd.sh 0 _ rfl mm378 [] [] rfl (by decide) (fun _ h => absurd h List.not_mem_nil) rfl rfl) ?_
              rintro vv379 ww380 mm381
              refine ⟨(mm381.sub (List.Sublist.cons _ (List.Sublist.cons _ (List.Sublist.cons _ (List.Sublist.cons_cons _ List.Sublist.slnil))))), ?_⟩
              refine kend ?_
              refine wa_fork 2 [] (by kernel_rfl) (by kernel_rfl) ⟨?_, trivial⟩
              · refine so (o := _) rfl ?_
                refine k2 (wt_none rfl _) rfl (x_app Tryd.sh (.tmp 45) (.tmp 46) rfl mm381 0 rfl rfl (Rc.at hv mm381) (cH_len h32 (by first | rfl | omega)) (cH_one _) (by omega) rfl) ?_
                rintro vv382 ww383 mm384
                have mm385 : Mo w ww383 [.own 24 32 vv382 l.length (cH l), .own 24 32 vv376 1 (cH ([atH l (l.length - 1)])), .arr gg332 24 (cellsOf (List.replicate 32 0)), .arr gg16 24 (cellsOf (rootS l))] := (by have h := mm384; rw [List.nil_append, Nat.zero_add] at h; exact h)
                refine ⟨(mm385.sub (List.Sublist.cons _ (List.Sublist.cons _ (List.Sublist.cons _ (List.Sublist.cons_cons _ List.Sublist.slnil))))), ?_⟩
                refine kend ?_
                refine wa_fork 9 [] (by kernel_rfl) (by kernel_rfl) ⟨?_, trivial⟩
                · refine so (o := _) rfl ?_
                  refine k2 (wt_none rfl _) rfl (x_app Tryd.sh (.tmp 47) (.tmp 53) rfl mm385 0 rfl rfl (mm385.rc 1 rfl) (cH_len (H32.one (len_of (by rw [cellsOf_length]; exact H32.at h32 (by omega)))) rfl) (cH_one _) (by omega) rfl) ?_
                  rintro vv386 ww387 mm388
                  have mm389 : Mo w ww387 [.own 24 32 vv386 (l.length + 1) (cH (l ++ ([atH l (l.length - 1)]))), .own 24 32 vv376 1 (cH ([atH l (l.length - 1)])), .arr gg332 24 (cellsOf (List.replicate 32 0)), .arr gg16 24 (cellsOf (rootS l))] := (by have h := mm388; rw [← cH_append] at h; exact h)
                  refine ⟨(mm389.sub (List.Sublist.cons _ (List.Sublist.cons _ (List.Sublist.cons _ (List.Sublist.cons_cons _ List.Sublist.slnil))))), ?_⟩
                  refine kend ?_
                  refine wa_fork 10 [] (by kernel_rfl) (by kernel_rfl) ⟨?_, trivial⟩
                  · refine so (o := _) rfl ?_
                    refine kc (wt_none rfl _) rfl (x_cl1 (v0 := vv386) rfl rfl (by kernel_rfl)) (root_again vv386 l _ h32 (mm389.rc 0 rfl) hodd hlo (by omega) (ht.gr mm389.below) (Nat.le_trans h2 mm389.size)) ?_
                    rintro _ ww390 ⟨rfl, mm391⟩
                    have mm392 : Mo w ww390 [.own 24 32 vv386 (l.length + 1) (cH (l ++ ([atH l (l.length - 1)]))), .own 24 32 vv376 1 (cH ([atH l (l.length - 1)])), .arr gg332 24 (cellsOf (List.replicate 32 0)), .arr gg16 24 (cellsOf (rootS l))] := mm389.gr mm391
                    refine ⟨_, rfl, (mm392.sub (List.Sublist.cons _ (List.Sublist.cons _ (List.Sublist.cons _ (List.Sublist.cons_cons _ List.Sublist.slnil))))), ?_⟩
                    refine kend ?_
                    refine wa_first (i := 11) (by kernel_rfl) rfl (by kernel_rfl) ?_
                    refine k0 (wt_none rfl _) rfl (.tuple #[.agg (cellsOf (rootS l)).toArray, .bool true]) (fun _ _ => exec_move (.tmp 55) (.inl rfl) _ rfl) ?_
                    refine kend ?_
                    refine wa_first (i := 12) (by kernel_rfl) rfl (by kernel_rfl) ?_
                    refine k0 (wt_none rfl _) rfl (.agg (cellsOf (rootS l)).toArray) (fun _ _ => exec_extract (.tmp 44) 0 rfl [.agg (cellsOf (rootS l)).toArray, .bool true] _ rfl rfl) ?_
                    refine kend ?_
                    refine wa_first (i := 13) (by kernel_rfl) rfl (by kernel_rfl) ?_
                    refine k0 (wt_none rfl _) rfl (.bool true) (fun _ _ => exec_extract (.tmp 44) 1 rfl [.agg (cellsOf (rootS l)).toArray, .bool true] _ rfl rfl) ?_
                    refine kend ?_
                    refine wa_fork 15 [] (by kernel_rfl) (by kernel_rfl) ⟨?_, trivial⟩
                    · refine so (o := _) rfl ?_
                      refine ks (wt_none rfl _) rfl rfl (x_sta (.tmp 6) (.tmp 56) rfl mm392 2 rfl 0 (cellsOf (rootS l)) (cellsOf (rootS l)) (at_size Tryd.ah (rootS_len h32)) (sta_len (by rfl : (cellsOf (List.replicate 32 0)).length = 32) (rootS_len h32)) (cellsOf_one _) (sta_all (by rfl : (cellsOf (List.replicate 32 0)).length = 32) (rootS_len h32)) rfl (.agg (cellsOf (rootS l)).toArray) rfl rfl) ?_
                      rintro ww393 mm394
                      have mm395 : Mo w ww393 [.own 24 32 vv386 (l.length + 1) (cH (l ++ ([atH l (l.length - 1)]))), .own 24 32 vv376 1 (cH ([atH l (l.length - 1)])), .arr gg332 24 (cellsOf (rootS l)), .arr gg16 24 (cellsOf (rootS l))] := mm394
                      refine ⟨(mm395.sub (List.Sublist.cons _ (List.Sublist.cons _ (List.Sublist.cons _ (List.Sublist.cons_cons _ List.Sublist.slnil))))), ?_⟩
                      refine kend ?_
                      refine wa_first (i := 16) (by kernel_rfl) rfl (by kernel_rfl) ?_
                      refine k0 (wt_none rfl _) rfl (.bool true) (fun _ _ => exec_move (.tmp 57) (.inr rfl) _ rfl) ?_
                      refine kend ?_
                      refine wa_end (by kernel_rfl) ?_
                      refine th_n ?_
                      refine sq ?_
                      refine cz [(0, v), (2, .bool false), (3, .pointer (some ⟨gg16, 0, none⟩)), (4, .bool (dblS l)), (5, .int .i64 ((l.length : Nat) : Int)), (6, .pointer (some ⟨gg332, 0, none⟩)), (7, .bool true), (15, .bool false), (26, .bool false)] ⟨rfl, rfl, rfl, rfl, rfl, rfl, rfl, rfl, rfl, trivial⟩ (fun _ => ?_)
                      refine rp [2, 0, 1, 1, 0, 0, 0, 0, 0, 0] ?_
                      refine kc (wt_none rfl _) rfl (x_cl0 rfl (by kernel_rfl)) (alive_any _ (ht.gr mm395.below) (Nat.le_trans h2 mm395.size)) ?_
                      rintro _ ww396 ⟨rfl, mm397⟩
                      have mm398 : Mo w ww396 [.own 24 32 vv386 (l.length + 1) (cH (l ++ ([atH l (l.length - 1)]))), .own 24 32 vv376 1 (cH ([atH l (l.length - 1)])), .arr gg332 24 (cellsOf (rootS l)), .arr gg16 24 (cellsOf (rootS l))] := mm395.gr mm397
                      refine ⟨_, rfl, trivial, ?_⟩
                      refine k0 (wt_none rfl _) rfl (.bool true) (fun _ _ => exec_move (.tmp 58) (.inl rfl) _ rfl) ?_
                      refine k1 (wt_some rfl rfl rfl rfl) rfl (.agg (cellsOf (rootS l)).toArray) (exec_load_arr Tryd.ah (.tmp 6) rfl gg332 _ (rootS_len h32) rfl (mm398.arr 2 rfl)) ?_
                      refine k1 (wt_some rfl rfl rfl rfl) rfl (.agg (cellsOf (rootS l)).toArray) (exec_load_arr Tryd.ah (.tmp 3) rfl gg16 _ (rootS_len h32) rfl (mm398.arr 3 rfl)) ?_
                      refine k0 (wt_some rfl rfl rfl rfl) rfl (.bool true) (fun _ _ => x_eqa Tryd.ah Tryd.u8 (by kernel_rfl) (.tmp 60) (.tmp 61) _ rfl (rootS l) (rootS l) (rootS_len h32) (rootS_len h32) true (decide_eq_true rfl) rfl rfl) ?_
                      refine k0 (wt_none rfl _) rfl (.bool true) (fun _ _ => x_pick (.tmp 59) (.tmp 62) (.const (.bool false)) rfl true _ rfl rfl) ?_
                      refine k0 (wt_none rfl _) rfl (.bool true) (fun _ _ => exec_move (.tmp 63) (.inl rfl) _ rfl) ?_
                      refine k0 (wt_some rfl rfl rfl rfl) rfl (.bool true) (fun _ _ => exec_move (.tmp 7) (.inl rfl) _ rfl) ?_
                      refine k0 (wt_none rfl _) rfl (.bool true) (fun _ _ => x_pick (.tmp 64) (.tmp 65) (.const (.bool false)) rfl true _ rfl rfl) ?_
                      refine k0 (wt_none rfl _) rfl (.bool true) (fun _ _ => exec_move (.tmp 66) (.inr rfl) _ rfl) ?_
                      refine kend ?_
                      refine th_n ?_
                      refine re ?_
                      refine rt1 rfl ?_
                      exact ⟨rfl, mm398.below⟩

end Go.Proofs.YtjlgbkkbflegcaaDoor
