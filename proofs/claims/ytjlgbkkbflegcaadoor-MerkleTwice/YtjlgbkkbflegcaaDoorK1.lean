/-
  Contracts of package merkle's joined, mate, and of the document's Pair, partner.
-/
import Derived.Test.YtjlgbkkbflegcaaDoorD3
import Derived.Test.YtjlgbkkbflegcaaDoorS8
import Derived.Test.YtjlgbkkbflegcaaDoorMkM
namespace Go.Proofs.YtjlgbkkbflegcaaDoor
open Go.RowKit
theorem Tryd.sh : ST Tryd.prog 22 24 32 32 (.agg (List.replicate 32 (.int .u8 0)).toArray) := ⟨by kernel_rfl, by kernel_rfl, rfl, by decide, by decide⟩
theorem pr_len (a b : List UInt8) : (cellsOf (pr a b)).length = 32 := by rw [cellsOf_length, pr_length]
theorem mid1 (a : List UInt8) : (cellsOf (List.replicate 64 0)).take 0 ++ cellsOf a ++ (cellsOf (List.replicate 64 0)).drop (0 + 32) = cellsOf (a ++ List.replicate 32 0) := by
  rw [cells_mid]; rfl
theorem mid2 (a b : List UInt8) (ha : (cellsOf a).length = 32) : (cellsOf (a ++ List.replicate 32 0)).take 32 ++ cellsOf b ++ (cellsOf (a ++ List.replicate 32 0)).drop (32 + 32) = cellsOf (a ++ b) := by
  have h : a.length = 32 := len_of ha
  rw [cells_mid, List.take_left' h, List.drop_of_length_le (by simp [h]), List.append_nil]

set_option maxHeartbeats 1000000 in
theorem joined_any (a b : List UInt8) (w : World) (ha : (cellsOf a).length = 32) (hb : (cellsOf b).length = 32) (ht : Tabs w) (h2 : 2 ≤ w.heap.size) :
    Calls Tryd.prog 29 #[.agg (cellsOf a).toArray, .agg (cellsOf b).toArray] w fun e w' => e = .returned (.agg (cellsOf (pr a b)).toArray) ∧ Below w.heap.size w w' := by
  have m0 := Mo.start w
  refine enter [.agg (cellsOf a).toArray, .agg (cellsOf b).toArray] 14 Tryd.func29 rfl Tryd.ntmps29 (Nat.le_of_ble_eq_true rfl) ?_
  refine sq ?_
  refine cz [(0, .agg (cellsOf a).toArray), (1, .agg (cellsOf b).toArray)] ⟨rfl, rfl, trivial⟩ (fun _ => ?_)
  refine rp [2, 2, 2] ?_
  refine k2 (wt_none rfl _) rfl (x_box 24 (.tmp 0) rfl m0 (cellsOf a) rfl) ?_
  rintro _ ww1 ⟨gg3, rfl, mm2⟩
  refine ⟨trivial, ?_⟩
  refine k2 (wt_none rfl _) rfl (x_box 24 (.tmp 1) rfl mm2 (cellsOf b) rfl) ?_
  rintro _ ww4 ⟨gg6, rfl, mm5⟩
  refine ⟨trivial, ?_⟩
  refine k2 (wt_none rfl _) rfl (x_alc Tryd.ah rfl mm5 (cellsOf (List.replicate 32 0)) rfl) ?_
  rintro _ ww8 ⟨gg10, rfl, mm9⟩
  refine ⟨trivial, ?_⟩
  refine kend ?_
  refine th_n ?_
  refine sq ?_
  refine cz [(0, .agg (cellsOf a).toArray), (1, .agg (cellsOf b).toArray), (2, .pointer (some ⟨gg3, 0, none⟩)), (3, .pointer (some ⟨gg6, 0, none⟩)), (4, .pointer (some ⟨gg10, 0, none⟩))] ⟨rfl, rfl, rfl, rfl, rfl, trivial⟩ (fun _ => ?_)
  refine rp [2] ?_
  refine k2 (wt_none rfl _) rfl (x_alc Tryd.ab rfl mm9 (cellsOf (List.replicate 64 0)) rfl) ?_
  rintro _ ww12 ⟨gg14, rfl, mm13⟩
  refine ⟨trivial, ?_⟩
  refine kend ?_
  refine th_n ?_
  refine sq ?_
  refine cz [(0, .agg (cellsOf a).toArray), (1, .agg (cellsOf b).toArray), (2, .pointer (some ⟨gg3, 0, none⟩)), (3, .pointer (some ⟨gg6, 0, none⟩)), (4, .pointer (some ⟨gg10, 0, none⟩)), (5, .pointer (some ⟨gg14, 0, none⟩))] ⟨rfl, rfl, rfl, rfl, rfl, rfl, trivial⟩ (fun _ => ?_)
  have mm16 := mm13.drew
  refine rq (fun w1 => Mo w w1 [.arr gg10 24 (cellsOf (List.replicate 32 0)), .arr gg6 24 (cellsOf b), .arr gg3 24 (cellsOf a)]) [0, 0, 2] (by kernel_rfl) (by kernel_rfl) (by kernel_rfl) (mm16.sub (List.Sublist.cons _ (List.Sublist.cons_cons _ (List.Sublist.cons_cons _ (List.Sublist.cons_cons _ List.Sublist.slnil))))) ?_
  refine k0 (wt_none rfl _) rfl (.slice (some ⟨gg14, 0, none⟩) 32 64) (fun _ _ => x_slb Tryd.ab (.tmp 5) none (some (.const (.int .i64 32))) rfl gg14 0 32 (by decide) (by decide) (by decide) rfl rfl rfl) ?_
  refine k0 (wt_none rfl _) rfl (.slice (some ⟨gg3, 0, none⟩) 32 32) (fun _ _ => x_sla Tryd.ah (.tmp 2) rfl gg3 rfl) ?_
  refine k2 (wt_none rfl _) rfl (x_cpy Tryd.sb (.tmp 6) (.tmp 7) rfl mm16 0 rfl 0 32 rfl (mm16.arc 3 rfl 32) rfl ha (by decide) (by decide) (cellsOf (a ++ List.replicate 32 0)) (mid1 a) (cellsOf_one _)) ?_
  rintro _ ww17 ⟨rfl, mm18⟩
  have mm19 : Mo w ww17 [.arr gg14 64 (cellsOf (a ++ List.replicate 32 0)), .arr gg10 24 (cellsOf (List.replicate 32 0)), .arr gg6 24 (cellsOf b), .arr gg3 24 (cellsOf a)] := mm18
  refine ⟨(mm19.sub (List.Sublist.cons _ (List.Sublist.cons_cons _ (List.Sublist.cons_cons _ (List.Sublist.cons_cons _ List.Sublist.slnil))))), ?_⟩
  refine kend ?_
  refine th_n ?_
  refine sq ?_
  refine cz [(0, .agg (cellsOf a).toArray), (1, .agg (cellsOf b).toArray), (2, .pointer (some ⟨gg3, 0, none⟩)), (3, .pointer (some ⟨gg6, 0, none⟩)), (4, .pointer (some ⟨gg10, 0, none⟩)), (5, .pointer (some ⟨gg14, 0, none⟩))] ⟨rfl, rfl, rfl, rfl, rfl, rfl, trivial⟩ (fun _ => ?_)
  have mm21 := mm19.drew
  refine rq (fun w1 => Mo w w1 [.arr gg10 24 (cellsOf (List.replicate 32 0)), .arr gg6 24 (cellsOf b), .arr gg3 24 (cellsOf a)]) [0, 0, 2] (by kernel_rfl) (by kernel_rfl) (by kernel_rfl) (mm21.sub (List.Sublist.cons _ (List.Sublist.cons_cons _ (List.Sublist.cons_cons _ (List.Sublist.cons_cons _ List.Sublist.slnil))))) ?_
  refine k0 (wt_none rfl _) rfl (.slice (some ⟨gg14, 32, none⟩) 32 32) (fun _ _ => x_slb Tryd.ab (.tmp 5) (some (.const (.int .i64 32))) none rfl gg14 32 64 (by decide) (by decide) (by decide) rfl rfl rfl) ?_
  refine k0 (wt_none rfl _) rfl (.slice (some ⟨gg6, 0, none⟩) 32 32) (fun _ _ => x_sla Tryd.ah (.tmp 3) rfl gg6 rfl) ?_
  refine k2 (wt_none rfl _) rfl (x_cpy Tryd.sb (.tmp 9) (.tmp 10) rfl mm21 0 rfl 32 32 rfl (mm21.arc 2 rfl 32) rfl hb (by decide) (by rw [cellsOf_length, List.length_append, len_of ha]; decide) (cellsOf (a ++ b)) (mid2 a b ha) (cellsOf_one _)) ?_
  rintro _ ww22 ⟨rfl, mm23⟩
  have mm24 : Mo w ww22 [.arr gg14 64 (cellsOf (a ++ b)), .arr gg10 24 (cellsOf (List.replicate 32 0)), .arr gg6 24 (cellsOf b), .arr gg3 24 (cellsOf a)] := mm23
  refine ⟨(mm24.sub (List.Sublist.cons _ (List.Sublist.cons_cons _ (List.Sublist.cons_cons _ (List.Sublist.cons_cons _ List.Sublist.slnil))))), ?_⟩
  refine kend ?_
  refine th_n ?_
  refine sq ?_
  refine cz [(0, .agg (cellsOf a).toArray), (1, .agg (cellsOf b).toArray), (2, .pointer (some ⟨gg3, 0, none⟩)), (3, .pointer (some ⟨gg6, 0, none⟩)), (4, .pointer (some ⟨gg10, 0, none⟩)), (5, .pointer (some ⟨gg14, 0, none⟩))] ⟨rfl, rfl, rfl, rfl, rfl, rfl, trivial⟩ (fun _ => ?_)
  refine rp [0, 2, 2] ?_
  refine k0 (wt_none rfl _) rfl (.slice (some ⟨gg14, 0, none⟩) 64 64) (fun _ _ => x_sla Tryd.ab (.tmp 5) rfl gg14 rfl) ?_
  refine kc (wt_none rfl _) rfl (x_cl1 (v0 := .slice (some ⟨gg14, 0, none⟩) 64 64) rfl rfl (by kernel_rfl)) (double_any _ (a ++ b) (.slice (some ⟨gg14, 0, none⟩) 64 64) _ ((mm24.arc 0 rfl 64).rd (by rw [List.length_append, len_of ha, len_of hb])) (ht.gr mm24.below) (Nat.le_trans h2 mm24.size) (by rw [List.length_append, len_of ha, len_of hb]; decide)) ?_
  rintro _ ww25 ⟨rfl, mm26⟩
  have mm27 : Mo w ww25 [.arr gg14 64 (cellsOf (a ++ b)), .arr gg10 24 (cellsOf (List.replicate 32 0)), .arr gg6 24 (cellsOf b), .arr gg3 24 (cellsOf a)] := mm24.gr mm26
  refine ⟨_, rfl, trivial, ?_⟩
  refine ks (wt_none rfl _) rfl rfl (x_sta (.tmp 4) (.tmp 13) rfl mm27 1 rfl 0 (cellsOf (pr a b)) (cellsOf (pr a b)) (at_size Tryd.ah (pr_len a b)) (sta_len (by rfl : (cellsOf (List.replicate 32 0)).length = 32) (pr_len a b)) (cellsOf_one _) (sta_all (by rfl : (cellsOf (List.replicate 32 0)).length = 32) (pr_len a b)) rfl (.agg (cellsOf (pr a b)).toArray) rfl rfl) ?_
  rintro ww28 mm29
  have mm30 : Mo w ww28 [.arr gg14 64 (cellsOf (a ++ b)), .arr gg10 24 (cellsOf (pr a b)), .arr gg6 24 (cellsOf b), .arr gg3 24 (cellsOf a)] := mm29
  refine ⟨trivial, ?_⟩
  refine kend ?_
  refine th_n ?_
  refine re ?_
  refine rta Tryd.ah rfl (pr_len a b) (mm30.arr 1 rfl) rfl ?_
  exact ⟨rfl, mm30.below⟩

set_option maxHeartbeats 1000000 in
theorem pair_doc (a b : List UInt8) (w : World) (ha : (cellsOf a).length = 32) (hb : (cellsOf b).length = 32) :
    Calls Tryd.prog 30 #[.agg (cellsOf a).toArray, .agg (cellsOf b).toArray] w fun e w' => e = .returned (.agg (cellsOf (pr a b)).toArray) ∧ Below w.heap.size w w' := by
  have m0 := Mo.start w
  refine enter [.agg (cellsOf a).toArray, .agg (cellsOf b).toArray] 14 Tryd.func30 rfl Tryd.ntmps30 (Nat.le_of_ble_eq_true rfl) ?_
  refine sq ?_
  refine cz [(0, .agg (cellsOf a).toArray), (1, .agg (cellsOf b).toArray)] ⟨rfl, rfl, trivial⟩ (fun _ => ?_)
  refine rp [2, 2, 2] ?_
  refine k2 (wt_none rfl _) rfl (x_box 24 (.tmp 0) rfl m0 (cellsOf a) rfl) ?_
  rintro _ ww1 ⟨gg3, rfl, mm2⟩
  refine ⟨trivial, ?_⟩
  refine k2 (wt_none rfl _) rfl (x_box 24 (.tmp 1) rfl mm2 (cellsOf b) rfl) ?_
  rintro _ ww4 ⟨gg6, rfl, mm5⟩
  refine ⟨trivial, ?_⟩
  refine k2 (wt_none rfl _) rfl (x_alc Tryd.ah rfl mm5 (cellsOf (List.replicate 32 0)) rfl) ?_
  rintro _ ww8 ⟨gg10, rfl, mm9⟩
  refine ⟨trivial, ?_⟩
  refine kend ?_
  refine th_n ?_
  refine sq ?_
  refine cz [(0, .agg (cellsOf a).toArray), (1, .agg (cellsOf b).toArray), (2, .pointer (some ⟨gg3, 0, none⟩)), (3, .pointer (some ⟨gg6, 0, none⟩)), (4, .pointer (some ⟨gg10, 0, none⟩))] ⟨rfl, rfl, rfl, rfl, rfl, trivial⟩ (fun _ => ?_)
  refine rp [2, 0, 2, 0] ?_
  refine k2 (wt_none rfl _) rfl (x_bld Tryd.sb 0 _ rfl mm9 [] [] rfl (by decide) (fun _ h => absurd h List.not_mem_nil) rfl rfl) ?_
  rintro vv11 ww12 mm13
  refine ⟨trivial, ?_⟩
  refine k0 (wt_none rfl _) rfl (.slice (some ⟨gg3, 0, none⟩) 32 32) (fun _ _ => x_sla Tryd.ah (.tmp 2) rfl gg3 rfl) ?_
  refine k2 (wt_none rfl _) rfl (x_app Tryd.sb (.tmp 6) (.tmp 7) rfl mm13 0 rfl rfl (mm13.arc 3 rfl 32) ha (cellsOf_one _) (by omega) rfl) ?_
  rintro vv14 ww15 mm16
  have mm17 : Mo w ww15 [.own 5 1 vv14 32 (cellsOf a), .arr gg10 24 (cellsOf (List.replicate 32 0)), .arr gg6 24 (cellsOf b), .arr gg3 24 (cellsOf a)] := (by have h := mm16; rw [List.nil_append, Nat.zero_add] at h; exact h)
  refine ⟨trivial, ?_⟩
  refine k0 (wt_none rfl _) rfl (vv14) (fun _ _ => exec_move (.tmp 8) (.inr rfl) _ rfl) ?_
  refine kend ?_
  refine th_n ?_
  refine sq ?_
  refine cz [(0, .agg (cellsOf a).toArray), (1, .agg (cellsOf b).toArray), (2, .pointer (some ⟨gg3, 0, none⟩)), (3, .pointer (some ⟨gg6, 0, none⟩)), (4, .pointer (some ⟨gg10, 0, none⟩)), (5, vv14)] ⟨rfl, rfl, rfl, rfl, rfl, rfl, trivial⟩ (fun _ => ?_)
  refine rp [0, 0, 2, 0] ?_
  refine k0 (wt_none rfl _) rfl (vv14) (fun _ _ => exec_move (.tmp 5) (.inl rfl) _ rfl) ?_
  refine k0 (wt_none rfl _) rfl (.slice (some ⟨gg6, 0, none⟩) 32 32) (fun _ _ => x_sla Tryd.ah (.tmp 3) rfl gg6 rfl) ?_
  refine k2 (wt_none rfl _) rfl (x_app Tryd.sb (.tmp 9) (.tmp 10) rfl mm17 0 rfl rfl (mm17.arc 2 rfl 32) hb (cellsOf_one _) (by omega) rfl) ?_
  rintro vv18 ww19 mm20
  have mm21 : Mo w ww19 [.own 5 1 vv18 (32 + 32) (cellsOf (a ++ b)), .arr gg10 24 (cellsOf (List.replicate 32 0)), .arr gg6 24 (cellsOf b), .arr gg3 24 (cellsOf a)] := (by have h := mm20; rw [← cellsOf_append] at h; exact h)
  refine ⟨trivial, ?_⟩
  refine k0 (wt_none rfl _) rfl (vv18) (fun _ _ => exec_move (.tmp 11) (.inr rfl) _ rfl) ?_
  refine kend ?_
  refine th_n ?_
  refine sq ?_
  refine cz [(0, .agg (cellsOf a).toArray), (1, .agg (cellsOf b).toArray), (2, .pointer (some ⟨gg3, 0, none⟩)), (3, .pointer (some ⟨gg6, 0, none⟩)), (4, .pointer (some ⟨gg10, 0, none⟩)), (5, vv18)] ⟨rfl, rfl, rfl, rfl, rfl, rfl, trivial⟩ (fun _ => ?_)
  refine rp [0, 2, 2] ?_
  refine k0 (wt_none rfl _) rfl (vv18) (fun _ _ => exec_move (.tmp 5) (.inl rfl) _ rfl) ?_
  refine kc (wt_none rfl _) rfl (x_cl1 (v0 := vv18) rfl rfl (by kernel_rfl)) (double_doc vv18 (a ++ b) (32 + 32) _ (by rw [List.length_append, len_of ha, len_of hb]) (mm21.rc 0 rfl) (by rw [List.length_append, len_of ha, len_of hb]; decide)) ?_
  rintro _ ww22 ⟨rfl, mm23⟩
  have mm24 : Mo w ww22 [.own 5 1 vv18 (32 + 32) (cellsOf (a ++ b)), .arr gg10 24 (cellsOf (List.replicate 32 0)), .arr gg6 24 (cellsOf b), .arr gg3 24 (cellsOf a)] := mm21.gr mm23
  refine ⟨_, rfl, trivial, ?_⟩
  refine ks (wt_none rfl _) rfl rfl (x_sta (.tmp 4) (.tmp 13) rfl mm24 1 rfl 0 (cellsOf (pr a b)) (cellsOf (pr a b)) (at_size Tryd.ah (pr_len a b)) (sta_len (by rfl : (cellsOf (List.replicate 32 0)).length = 32) (pr_len a b)) (cellsOf_one _) (sta_all (by rfl : (cellsOf (List.replicate 32 0)).length = 32) (pr_len a b)) rfl (.agg (cellsOf (pr a b)).toArray) rfl rfl) ?_
  rintro ww25 mm26
  have mm27 : Mo w ww25 [.own 5 1 vv18 (32 + 32) (cellsOf (a ++ b)), .arr gg10 24 (cellsOf (pr a b)), .arr gg6 24 (cellsOf b), .arr gg3 24 (cellsOf a)] := mm26
  refine ⟨trivial, ?_⟩
  refine kend ?_
  refine th_n ?_
  refine re ?_
  refine rta Tryd.ah rfl (pr_len a b) (mm27.arr 1 rfl) rfl ?_
  exact ⟨rfl, mm27.below⟩

set_option maxHeartbeats 1000000 in
theorem mate_any (i n : Nat) (w : World) (hi : i < n) (hn : n ≤ 1000000) :
    Calls Tryd.prog 27 #[.int .i64 ((i : Nat) : Int), .int .i64 ((n : Nat) : Int)] w fun e w' => e = .returned (.int .i64 ((mt i n : Nat) : Int)) ∧ w' = w := by
  have hmt : ¬ i % 2 = 1 → min (i + 1) (n - 1) = mt i n := fun h => by unfold mt; rw [if_neg h]
  have m0 := Mo.start w
  refine enter [.int .i64 ((i : Nat) : Int), .int .i64 ((n : Nat) : Int)] 15 Tryd.func27 rfl Tryd.ntmps27 (Nat.le_of_ble_eq_true rfl) ?_
  refine sq ?_
  refine cz [(0, .int .i64 ((i : Nat) : Int)), (1, .int .i64 ((n : Nat) : Int))] ⟨rfl, rfl, trivial⟩ (fun _ => ?_)
  refine rp [0] ?_
  refine k0 (wt_none rfl _) rfl (.int .i64 0) (fun _ _ => exec_move (.const (.int .i64 0)) (.inr rfl) _ rfl) ?_
  refine kend ?_
  refine th_n ?_
  refine sq ?_
  refine sq ?_
  by_cases hp : i % 2 = 1
  · skip
    refine cz [(0, .int .i64 ((i : Nat) : Int)), (1, .int .i64 ((n : Nat) : Int)), (4, .int .i64 0)] ⟨rfl, rfl, rfl, trivial⟩ (fun _ => ?_)
    refine rp [0, 0, 0] ?_
    refine k0 (wt_none rfl _) rfl (.int .i64 ((i : Nat) : Int)) (fun _ _ => exec_move (.tmp 0) (.inl rfl) _ rfl) ?_
    refine k0 (wt_none rfl _) rfl (.int .i64 ((i % 2 : Nat) : Int)) (fun _ _ => x_rem (.tmp 5) (.const (.int .i64 2)) _ _ rfl i 2 (i % 2) .i64 (by exact ⟨rfl, by omega⟩) rfl rfl) ?_
    refine k0 (wt_none rfl _) rfl (.bool true) (fun _ _ => x_eql_t (.tmp 6) (.const (.int .i64 1)) _ _ rfl (i % 2) 1 .i64 (by omega) rfl rfl) ?_
    refine kend ?_
    refine th_n ?_
    refine cdt rfl ?_
    refine sq ?_
    refine cz [(0, .int .i64 ((i : Nat) : Int)), (1, .int .i64 ((n : Nat) : Int)), (4, .int .i64 0), (7, .bool true)] ⟨rfl, rfl, rfl, rfl, trivial⟩ (fun _ => ?_)
    refine rp [0, 0, 0] ?_
    refine k0 (wt_none rfl _) rfl (.int .i64 ((i : Nat) : Int)) (fun _ _ => exec_move (.tmp 0) (.inl rfl) _ rfl) ?_
    refine k0 (wt_none rfl _) rfl (.int .i64 ((i - 1 : Nat) : Int)) (fun _ _ => x_sub (.tmp 8) (.const (.int .i64 1)) _ _ rfl i 1 (i - 1) .i64 (by exact ⟨by omega, (show _ < 9223372036854775808 by omega)⟩) rfl rfl) ?_
    refine k0 (wt_none rfl _) rfl (.int .i64 ((i - 1 : Nat) : Int)) (fun _ _ => exec_move (.tmp 9) (.inr rfl) _ rfl) ?_
    refine kend ?_
    refine th_n ?_
    refine re ?_
    refine th_r ?_
    refine rt1 rfl ?_
    exact ⟨by rw [mt_odd hp]; rfl, rfl⟩
  · skip
    refine cz [(0, .int .i64 ((i : Nat) : Int)), (1, .int .i64 ((n : Nat) : Int)), (4, .int .i64 0)] ⟨rfl, rfl, rfl, trivial⟩ (fun _ => ?_)
    refine rp [0, 0, 0] ?_
    refine k0 (wt_none rfl _) rfl (.int .i64 ((i : Nat) : Int)) (fun _ _ => exec_move (.tmp 0) (.inl rfl) _ rfl) ?_
    refine k0 (wt_none rfl _) rfl (.int .i64 ((i % 2 : Nat) : Int)) (fun _ _ => x_rem (.tmp 5) (.const (.int .i64 2)) _ _ rfl i 2 (i % 2) .i64 (by exact ⟨rfl, by omega⟩) rfl rfl) ?_
    refine k0 (wt_none rfl _) rfl (.bool false) (fun _ _ => x_eql_f (.tmp 6) (.const (.int .i64 1)) _ _ rfl (i % 2) 1 .i64 (by omega) rfl rfl) ?_
    refine kend ?_
    refine th_n ?_
    refine cdf rfl ?_
    refine sk ?_
    refine th_n ?_
    refine sq ?_
    refine cz [(0, .int .i64 ((i : Nat) : Int)), (1, .int .i64 ((n : Nat) : Int)), (4, .int .i64 0), (7, .bool false)] ⟨rfl, rfl, rfl, rfl, trivial⟩ (fun _ => ?_)
    refine rp [0, 0, 0, 0, 0, 0] ?_
    refine k0 (wt_none rfl _) rfl (.int .i64 ((i : Nat) : Int)) (fun _ _ => exec_move (.tmp 0) (.inl rfl) _ rfl) ?_
    refine k0 (wt_none rfl _) rfl (.int .i64 ((i + 1 : Nat) : Int)) (fun _ _ => x_add (.tmp 10) (.const (.int .i64 1)) _ _ rfl i 1 (i + 1) .i64 (by exact ⟨by omega, (show _ < 9223372036854775808 by omega)⟩) rfl rfl) ?_
    refine k0 (wt_none rfl _) rfl (.int .i64 ((n : Nat) : Int)) (fun _ _ => exec_move (.tmp 1) (.inl rfl) _ rfl) ?_
    refine k0 (wt_none rfl _) rfl (.int .i64 ((n - 1 : Nat) : Int)) (fun _ _ => x_sub (.tmp 12) (.const (.int .i64 1)) _ _ rfl n 1 (n - 1) .i64 (by exact ⟨by omega, (show _ < 9223372036854775808 by omega)⟩) rfl rfl) ?_
    refine k0 (wt_none rfl _) rfl (.int .i64 ((min (i + 1) (n - 1) : Nat) : Int)) (fun _ _ => x_min (.tmp 11) (.tmp 13) _ rfl .i64 (i + 1) (n - 1) (min (i + 1) (n - 1)) rfl rfl rfl) ?_
    refine k0 (wt_none rfl _) rfl (.int .i64 ((min (i + 1) (n - 1) : Nat) : Int)) (fun _ _ => exec_move (.tmp 14) (.inr rfl) _ rfl) ?_
    refine kend ?_
    refine th_n ?_
    refine re ?_
    refine rt1 rfl ?_
    exact ⟨by rw [← hmt hp]; rfl, rfl⟩

set_option maxHeartbeats 1000000 in
theorem partner_doc (v : Value) (l : List (List UInt8)) (i : Nat) (w : World) (h32 : H32 l) (hv : Rc w.heap.size w v l.length (cH l)) (hi : i < l.length) (hn : l.length ≤ 1000000) :
    Calls Tryd.prog 28 #[v, .int .i64 ((i : Nat) : Int)] w fun e w' => e = .returned (.agg (cellsOf (atH l (mt i l.length))).toArray) ∧ Below w.heap.size w w' := by
  have m0 := Mo.start w
  refine enter [v, .int .i64 ((i : Nat) : Int)] 22 Tryd.func28 rfl Tryd.ntmps28 (Nat.le_of_ble_eq_true rfl) ?_
  refine sq ?_
  refine cz [(0, v), (1, .int .i64 ((i : Nat) : Int))] ⟨rfl, rfl, trivial⟩ (fun _ => ?_)
  refine rp [2] ?_
  refine k2 (wt_none rfl _) rfl (x_alc Tryd.ah rfl m0 (cellsOf (List.replicate 32 0)) rfl) ?_
  rintro _ ww2 ⟨gg4, rfl, mm3⟩
  refine ⟨trivial, ?_⟩
  refine kend ?_
  refine th_n ?_
  refine sq ?_
  refine cz [(0, v), (1, .int .i64 ((i : Nat) : Int)), (4, .pointer (some ⟨gg4, 0, none⟩))] ⟨rfl, rfl, rfl, trivial⟩ (fun _ => ?_)
  refine rp [0, 0, 0] ?_
  refine k0 (wt_none rfl _) rfl (.int .i64 ((i : Nat) : Int)) (fun _ _ => exec_move (.tmp 1) (.inl rfl) _ rfl) ?_
  refine k0 (wt_none rfl _) rfl (.int .i64 ((i + 1 : Nat) : Int)) (fun _ _ => x_add (.tmp 6) (.const (.int .i64 1)) _ _ rfl i 1 (i + 1) .i64 (by exact ⟨by omega, (show _ < 9223372036854775808 by omega)⟩) rfl rfl) ?_
  refine k0 (wt_none rfl _) rfl (.int .i64 ((i + 1 : Nat) : Int)) (fun _ _ => exec_move (.tmp 7) (.inr rfl) _ rfl) ?_
  refine kend ?_
  refine th_n ?_
  refine sq ?_
  refine sq ?_
  by_cases hp : i % 2 = 1
  · skip
    refine cz [(0, v), (1, .int .i64 ((i : Nat) : Int)), (4, .pointer (some ⟨gg4, 0, none⟩)), (5, .int .i64 ((i + 1 : Nat) : Int))] ⟨rfl, rfl, rfl, rfl, trivial⟩ (fun _ => ?_)
    refine rp [0, 0, 0] ?_
    refine k0 (wt_none rfl _) rfl (.int .i64 ((i : Nat) : Int)) (fun _ _ => exec_move (.tmp 1) (.inl rfl) _ rfl) ?_
    refine k0 (wt_none rfl _) rfl (.int .i64 ((i % 2 : Nat) : Int)) (fun _ _ => x_rem (.tmp 8) (.const (.int .i64 2)) _ _ rfl i 2 (i % 2) .i64 (by exact ⟨rfl, by omega⟩) rfl rfl) ?_
    refine k0 (wt_none rfl _) rfl (.bool true) (fun _ _ => x_eql_t (.tmp 9) (.const (.int .i64 1)) _ _ rfl (i % 2) 1 .i64 (by omega) rfl rfl) ?_
    refine kend ?_
    refine th_n ?_
    refine cdt rfl ?_
    refine cz [(0, v), (1, .int .i64 ((i : Nat) : Int)), (4, .pointer (some ⟨gg4, 0, none⟩)), (5, .int .i64 ((i + 1 : Nat) : Int)), (10, .bool true)] ⟨rfl, rfl, rfl, rfl, rfl, trivial⟩ (fun _ => ?_)
    refine rp [0, 0, 0] ?_
    refine k0 (wt_none rfl _) rfl (.int .i64 ((i : Nat) : Int)) (fun _ _ => exec_move (.tmp 1) (.inl rfl) _ rfl) ?_
    refine k0 (wt_none rfl _) rfl (.int .i64 ((i - 1 : Nat) : Int)) (fun _ _ => x_sub (.tmp 11) (.const (.int .i64 1)) _ _ rfl i 1 (i - 1) .i64 (by exact ⟨by omega, (show _ < 9223372036854775808 by omega)⟩) rfl rfl) ?_
    refine k0 (wt_none rfl _) rfl (.int .i64 ((i - 1 : Nat) : Int)) (fun _ _ => exec_move (.tmp 12) (.inr rfl) _ rfl) ?_
    refine kend ?_
    refine th_n ?_
    refine sq ?_
    refine sq ?_
    by_cases hq : i + 1 ≥ l.length
    · skip
      refine cz [(0, v), (1, .int .i64 ((i : Nat) : Int)), (4, .pointer (some ⟨gg4, 0, none⟩)), (5, .int .i64 ((i - 1 : Nat) : Int)), (10, .bool true)] ⟨rfl, rfl, rfl, rfl, rfl, trivial⟩ (fun _ => ?_)
      refine rp [0, 0, 1, 0] ?_
      refine k0 (wt_none rfl _) rfl (.int .i64 ((i - 1 : Nat) : Int)) (fun _ _ => exec_move (.tmp 5) (.inl rfl) _ rfl) ?_
      refine k0 (wt_none rfl _) rfl (v) (fun _ _ => exec_move (.tmp 0) (.inl rfl) _ rfl) ?_
      refine k1 (wt_none rfl _) rfl (.int .i64 ((l.length : Nat) : Int)) (x_len Tryd.sh.sl (.tmp 14) rfl (Rc.at hv mm3) rfl) ?_
      refine k0 (wt_none rfl _) rfl (.bool false) (fun _ _ => x_geq_f (.tmp 13) (.tmp 15) _ _ rfl (i - 1) l.length .i64 (by omega) rfl rfl) ?_
      refine kend ?_
      refine th_n ?_
      refine cdf rfl ?_
      refine sk ?_
      refine th_n ?_
      refine sq ?_
      refine cz [(0, v), (1, .int .i64 ((i : Nat) : Int)), (4, .pointer (some ⟨gg4, 0, none⟩)), (5, .int .i64 ((i - 1 : Nat) : Int)), (10, .bool true), (16, .bool false)] ⟨rfl, rfl, rfl, rfl, rfl, rfl, trivial⟩ (fun _ => ?_)
      refine rp [0, 0, 1, 1, 2] ?_
      refine k0 (wt_none rfl _) rfl (v) (fun _ _ => exec_move (.tmp 0) (.inl rfl) _ rfl) ?_
      refine k0 (wt_none rfl _) rfl (.int .i64 ((i - 1 : Nat) : Int)) (fun _ _ => exec_move (.tmp 5) (.inl rfl) _ rfl) ?_
      refine k1 (wt_none rfl _) rfl (eP v ((i - 1) * 32)) (x_ep Tryd.sh (.tmp 18) (.tmp 19) rfl (Rc.at hv mm3) (i - 1) .i64 ((i - 1) * 32) rfl (by omega) rfl _ rfl rfl) ?_
      refine k1 (wt_none rfl _) rfl (.agg (cellsOf (atH l (i - 1))).toArray) (x_lda Tryd.ah (.tmp 20) rfl (Rc.at hv mm3) ((i - 1) * 32) (by omega) (cellsOf (atH l (i - 1))) (by rw [cellsOf_length]; exact H32.at h32 (by omega)) (by decide) (cH_get h32 (by omega)) rfl) ?_
      refine ks (wt_none rfl _) rfl rfl (x_sta (.tmp 4) (.tmp 21) rfl mm3 0 rfl 0 (cellsOf (atH l (i - 1))) (cellsOf (atH l (i - 1))) (at_size Tryd.ah (by rw [cellsOf_length]; exact H32.at h32 (by omega))) (sta_len (by rfl : (cellsOf (List.replicate 32 0)).length = 32) (by rw [cellsOf_length]; exact H32.at h32 (by omega))) (cellsOf_one _) (sta_all (by rfl : (cellsOf (List.replicate 32 0)).length = 32) (by rw [cellsOf_length]; exact H32.at h32 (by omega))) rfl (.agg (cellsOf (atH l (i - 1))).toArray) rfl rfl) ?_
      rintro ww5 mm6
      have mm7 : Mo w ww5 [.arr gg4 24 (cellsOf (atH l (i - 1)))] := mm6
      refine ⟨trivial, ?_⟩
      refine kend ?_
      refine th_n ?_
      refine re ?_
      refine rta Tryd.ah rfl (by rw [cellsOf_length]; exact H32.at h32 (by omega)) (mm7.arr 0 rfl) rfl ?_
      exact ⟨by rw [mt_odd hp], mm7.below⟩
    · skip
      refine cz [(0, v), (1, .int .i64 ((i : Nat) : Int)), (4, .pointer (some ⟨gg4, 0, none⟩)), (5, .int .i64 ((i - 1 : Nat) : Int)), (10, .bool true)] ⟨rfl, rfl, rfl, rfl, rfl, trivial⟩ (fun _ => ?_)
      refine rp [0, 0, 1, 0] ?_
      refine k0 (wt_none rfl _) rfl (.int .i64 ((i - 1 : Nat) : Int)) (fun _ _ => exec_move (.tmp 5) (.inl rfl) _ rfl) ?_
      refine k0 (wt_none rfl _) rfl (v) (fun _ _ => exec_move (.tmp 0) (.inl rfl) _ rfl) ?_
      refine k1 (wt_none rfl _) rfl (.int .i64 ((l.length : Nat) : Int)) (x_len Tryd.sh.sl (.tmp 14) rfl (Rc.at hv mm3) rfl) ?_
      refine k0 (wt_none rfl _) rfl (.bool false) (fun _ _ => x_geq_f (.tmp 13) (.tmp 15) _ _ rfl (i - 1) l.length .i64 (by omega) rfl rfl) ?_
      refine kend ?_
      refine th_n ?_
      refine cdf rfl ?_
      refine sk ?_
      refine th_n ?_
      refine sq ?_
      refine cz [(0, v), (1, .int .i64 ((i : Nat) : Int)), (4, .pointer (some ⟨gg4, 0, none⟩)), (5, .int .i64 ((i - 1 : Nat) : Int)), (10, .bool true), (16, .bool false)] ⟨rfl, rfl, rfl, rfl, rfl, rfl, trivial⟩ (fun _ => ?_)
      refine rp [0, 0, 1, 1, 2] ?_
      refine k0 (wt_none rfl _) rfl (v) (fun _ _ => exec_move (.tmp 0) (.inl rfl) _ rfl) ?_
      refine k0 (wt_none rfl _) rfl (.int .i64 ((i - 1 : Nat) : Int)) (fun _ _ => exec_move (.tmp 5) (.inl rfl) _ rfl) ?_
      refine k1 (wt_none rfl _) rfl (eP v ((i - 1) * 32)) (x_ep Tryd.sh (.tmp 18) (.tmp 19) rfl (Rc.at hv mm3) (i - 1) .i64 ((i - 1) * 32) rfl (by omega) rfl _ rfl rfl) ?_
      refine k1 (wt_none rfl _) rfl (.agg (cellsOf (atH l (i - 1))).toArray) (x_lda Tryd.ah (.tmp 20) rfl (Rc.at hv mm3) ((i - 1) * 32) (by omega) (cellsOf (atH l (i - 1))) (by rw [cellsOf_length]; exact H32.at h32 (by omega)) (by decide) (cH_get h32 (by omega)) rfl) ?_
      refine ks (wt_none rfl _) rfl rfl (x_sta (.tmp 4) (.tmp 21) rfl mm3 0 rfl 0 (cellsOf (atH l (i - 1))) (cellsOf (atH l (i - 1))) (at_size Tryd.ah (by rw [cellsOf_length]; exact H32.at h32 (by omega))) (sta_len (by rfl : (cellsOf (List.replicate 32 0)).length = 32) (by rw [cellsOf_length]; exact H32.at h32 (by omega))) (cellsOf_one _) (sta_all (by rfl : (cellsOf (List.replicate 32 0)).length = 32) (by rw [cellsOf_length]; exact H32.at h32 (by omega))) rfl (.agg (cellsOf (atH l (i - 1))).toArray) rfl rfl) ?_
      rintro ww8 mm9
      have mm10 : Mo w ww8 [.arr gg4 24 (cellsOf (atH l (i - 1)))] := mm9
      refine ⟨trivial, ?_⟩
      refine kend ?_
      refine th_n ?_
      refine re ?_
      refine rta Tryd.ah rfl (by rw [cellsOf_length]; exact H32.at h32 (by omega)) (mm10.arr 0 rfl) rfl ?_
      exact ⟨by rw [mt_odd hp], mm10.below⟩
  · skip
    refine cz [(0, v), (1, .int .i64 ((i : Nat) : Int)), (4, .pointer (some ⟨gg4, 0, none⟩)), (5, .int .i64 ((i + 1 : Nat) : Int))] ⟨rfl, rfl, rfl, rfl, trivial⟩ (fun _ => ?_)
    refine rp [0, 0, 0] ?_
    refine k0 (wt_none rfl _) rfl (.int .i64 ((i : Nat) : Int)) (fun _ _ => exec_move (.tmp 1) (.inl rfl) _ rfl) ?_
    refine k0 (wt_none rfl _) rfl (.int .i64 ((i % 2 : Nat) : Int)) (fun _ _ => x_rem (.tmp 8) (.const (.int .i64 2)) _ _ rfl i 2 (i % 2) .i64 (by exact ⟨rfl, by omega⟩) rfl rfl) ?_
    refine k0 (wt_none rfl _) rfl (.bool false) (fun _ _ => x_eql_f (.tmp 9) (.const (.int .i64 1)) _ _ rfl (i % 2) 1 .i64 (by omega) rfl rfl) ?_
    refine kend ?_
    refine th_n ?_
    refine cdf rfl ?_
    refine sk ?_
    refine th_n ?_
    refine sq ?_
    refine sq ?_
    by_cases hq : i + 1 ≥ l.length
    · skip
      refine cz [(0, v), (1, .int .i64 ((i : Nat) : Int)), (4, .pointer (some ⟨gg4, 0, none⟩)), (5, .int .i64 ((i + 1 : Nat) : Int)), (10, .bool false)] ⟨rfl, rfl, rfl, rfl, rfl, trivial⟩ (fun _ => ?_)
      refine rp [0, 0, 1, 0] ?_
      refine k0 (wt_none rfl _) rfl (.int .i64 ((i + 1 : Nat) : Int)) (fun _ _ => exec_move (.tmp 5) (.inl rfl) _ rfl) ?_
      refine k0 (wt_none rfl _) rfl (v) (fun _ _ => exec_move (.tmp 0) (.inl rfl) _ rfl) ?_
      refine k1 (wt_none rfl _) rfl (.int .i64 ((l.length : Nat) : Int)) (x_len Tryd.sh.sl (.tmp 14) rfl (Rc.at hv mm3) rfl) ?_
      refine k0 (wt_none rfl _) rfl (.bool true) (fun _ _ => x_geq_t (.tmp 13) (.tmp 15) _ _ rfl (i + 1) l.length .i64 (by omega) rfl rfl) ?_
      refine kend ?_
      refine th_n ?_
      refine cdt rfl ?_
      refine cz [(0, v), (1, .int .i64 ((i : Nat) : Int)), (4, .pointer (some ⟨gg4, 0, none⟩)), (5, .int .i64 ((i + 1 : Nat) : Int)), (10, .bool false), (16, .bool true)] ⟨rfl, rfl, rfl, rfl, rfl, rfl, trivial⟩ (fun _ => ?_)
      refine rp [0, 0] ?_
      refine k0 (wt_none rfl _) rfl (.int .i64 ((i : Nat) : Int)) (fun _ _ => exec_move (.tmp 1) (.inl rfl) _ rfl) ?_
      refine k0 (wt_none rfl _) rfl (.int .i64 ((i : Nat) : Int)) (fun _ _ => exec_move (.tmp 17) (.inr rfl) _ rfl) ?_
      refine kend ?_
      refine th_n ?_
      refine sq ?_
      refine cz [(0, v), (1, .int .i64 ((i : Nat) : Int)), (4, .pointer (some ⟨gg4, 0, none⟩)), (5, .int .i64 ((i : Nat) : Int)), (10, .bool false), (16, .bool true)] ⟨rfl, rfl, rfl, rfl, rfl, rfl, trivial⟩ (fun _ => ?_)
      refine rp [0, 0, 1, 1, 2] ?_
      refine k0 (wt_none rfl _) rfl (v) (fun _ _ => exec_move (.tmp 0) (.inl rfl) _ rfl) ?_
      refine k0 (wt_none rfl _) rfl (.int .i64 ((i : Nat) : Int)) (fun _ _ => exec_move (.tmp 5) (.inl rfl) _ rfl) ?_
      refine k1 (wt_none rfl _) rfl (eP v (i * 32)) (x_ep Tryd.sh (.tmp 18) (.tmp 19) rfl (Rc.at hv mm3) i .i64 (i * 32) rfl (by omega) rfl _ rfl rfl) ?_
      refine k1 (wt_none rfl _) rfl (.agg (cellsOf (atH l i)).toArray) (x_lda Tryd.ah (.tmp 20) rfl (Rc.at hv mm3) (i * 32) (by omega) (cellsOf (atH l i)) (by rw [cellsOf_length]; exact H32.at h32 (by omega)) (by decide) (cH_get h32 (by omega)) rfl) ?_
      refine ks (wt_none rfl _) rfl rfl (x_sta (.tmp 4) (.tmp 21) rfl mm3 0 rfl 0 (cellsOf (atH l i)) (cellsOf (atH l i)) (at_size Tryd.ah (by rw [cellsOf_length]; exact H32.at h32 (by omega))) (sta_len (by rfl : (cellsOf (List.replicate 32 0)).length = 32) (by rw [cellsOf_length]; exact H32.at h32 (by omega))) (cellsOf_one _) (sta_all (by rfl : (cellsOf (List.replicate 32 0)).length = 32) (by rw [cellsOf_length]; exact H32.at h32 (by omega))) rfl (.agg (cellsOf (atH l i)).toArray) rfl rfl) ?_
      rintro ww11 mm12
      have mm13 : Mo w ww11 [.arr gg4 24 (cellsOf (atH l i))] := mm12
      refine ⟨trivial, ?_⟩
      refine kend ?_
      refine th_n ?_
      refine re ?_
      refine rta Tryd.ah rfl (by rw [cellsOf_length]; exact H32.at h32 (by omega)) (mm13.arr 0 rfl) rfl ?_
      exact ⟨by rw [mt_out (by omega) hi (by omega)], mm13.below⟩
    · skip
      refine cz [(0, v), (1, .int .i64 ((i : Nat) : Int)), (4, .pointer (some ⟨gg4, 0, none⟩)), (5, .int .i64 ((i + 1 : Nat) : Int)), (10, .bool false)] ⟨rfl, rfl, rfl, rfl, rfl, trivial⟩ (fun _ => ?_)
      refine rp [0, 0, 1, 0] ?_
      refine k0 (wt_none rfl _) rfl (.int .i64 ((i + 1 : Nat) : Int)) (fun _ _ => exec_move (.tmp 5) (.inl rfl) _ rfl) ?_
      refine k0 (wt_none rfl _) rfl (v) (fun _ _ => exec_move (.tmp 0) (.inl rfl) _ rfl) ?_
      refine k1 (wt_none rfl _) rfl (.int .i64 ((l.length : Nat) : Int)) (x_len Tryd.sh.sl (.tmp 14) rfl (Rc.at hv mm3) rfl) ?_
      refine k0 (wt_none rfl _) rfl (.bool false) (fun _ _ => x_geq_f (.tmp 13) (.tmp 15) _ _ rfl (i + 1) l.length .i64 (by omega) rfl rfl) ?_
      refine kend ?_
      refine th_n ?_
      refine cdf rfl ?_
      refine sk ?_
      refine th_n ?_
      refine sq ?_
      refine cz [(0, v), (1, .int .i64 ((i : Nat) : Int)), (4, .pointer (some ⟨gg4, 0, none⟩)), (5, .int .i64 ((i + 1 : Nat) : Int)), (10, .bool false), (16, .bool false)] ⟨rfl, rfl, rfl, rfl, rfl, rfl, trivial⟩ (fun _ => ?_)
      refine rp [0, 0, 1, 1, 2] ?_
      refine k0 (wt_none rfl _) rfl (v) (fun _ _ => exec_move (.tmp 0) (.inl rfl) _ rfl) ?_
      refine k0 (wt_none rfl _) rfl (.int .i64 ((i + 1 : Nat) : Int)) (fun _ _ => exec_move (.tmp 5) (.inl rfl) _ rfl) ?_
      refine k1 (wt_none rfl _) rfl (eP v ((i + 1) * 32)) (x_ep Tryd.sh (.tmp 18) (.tmp 19) rfl (Rc.at hv mm3) (i + 1) .i64 ((i + 1) * 32) rfl (by omega) rfl _ rfl rfl) ?_
      refine k1 (wt_none rfl _) rfl (.agg (cellsOf (atH l (i + 1))).toArray) (x_lda Tryd.ah (.tmp 20) rfl (Rc.at hv mm3) ((i + 1) * 32) (by omega) (cellsOf (atH l (i + 1))) (by rw [cellsOf_length]; exact H32.at h32 (by omega)) (by decide) (cH_get h32 (by omega)) rfl) ?_
      refine ks (wt_none rfl _) rfl rfl (x_sta (.tmp 4) (.tmp 21) rfl mm3 0 rfl 0 (cellsOf (atH l (i + 1))) (cellsOf (atH l (i + 1))) (at_size Tryd.ah (by rw [cellsOf_length]; exact H32.at h32 (by omega))) (sta_len (by rfl : (cellsOf (List.replicate 32 0)).length = 32) (by rw [cellsOf_length]; exact H32.at h32 (by omega))) (cellsOf_one _) (sta_all (by rfl : (cellsOf (List.replicate 32 0)).length = 32) (by rw [cellsOf_length]; exact H32.at h32 (by omega))) rfl (.agg (cellsOf (atH l (i + 1))).toArray) rfl rfl) ?_
      rintro ww14 mm15
      have mm16 : Mo w ww14 [.arr gg4 24 (cellsOf (atH l (i + 1)))] := mm15
      refine ⟨trivial, ?_⟩
      refine kend ?_
      refine th_n ?_
      refine re ?_
      refine rta Tryd.ah rfl (by rw [cellsOf_length]; exact H32.at h32 (by omega)) (mm16.arr 0 rfl) rfl ?_
      exact ⟨by rw [mt_in (by omega) (by omega)], mm16.below⟩

end Go.Proofs.YtjlgbkkbflegcaaDoor
