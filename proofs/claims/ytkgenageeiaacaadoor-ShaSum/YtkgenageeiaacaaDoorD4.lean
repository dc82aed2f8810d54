/-
  ShaSum, ShaMade, ShaLong: the program's hashes are the document's.
-/
import Derived.Test.YtkgenageeiaacaaDoorD3
import Derived.Test.YtkgenageeiaacaaDoorS10
namespace Go.Proofs.YtkgenageeiaacaaDoor
open Go.RowKit
theorem rep_set (k i : Nat) (c : UInt8) (h : i < k) : (List.replicate i c ++ List.replicate (k - i) 0).set i c = List.replicate (i + 1) c ++ List.replicate (k - (i + 1)) 0 := by
  have e : k - i = (k - (i + 1)) + 1 := by omega
  rw [e, List.replicate_succ, List.set_append_right _ _ (by simp), List.replicate_succ' (n := i)]
  simp


set_option maxHeartbeats 1000000 in
theorem sum_law (v : Value) (l : List UInt8) (w : World) (hr : Rs w v l) (ht : Tabs w) (h2 : 2 ≤ w.heap.size) :
    Calls Tryd.prog 3 #[v] w fun e w' => e = .returned (.bool true) ∧ Below w.heap.size w w' := by
  have hv : Rc w.heap.size w v l.length (cellsOf l) := hr
  have m0 := Mo.start w
  refine enter [v] 26 Tryd.func3 rfl Tryd.ntmps3 (Nat.le_of_ble_eq_true rfl) ?_

  refine sq ?_
  refine cz [(0, v)] ⟨rfl, trivial⟩ (fun _ => ?_)
  refine rp [0] ?_
  refine k0 (wt_none rfl _) rfl (.bool false) (fun _ _ => exec_move (.const (.bool false)) (.inr rfl) _ rfl) ?_
  refine kend ?_
  refine th_n ?_
  refine sq ?_
  refine sq ?_
  by_cases h3 : l.length > 300
  · skip
    refine cz [(0, v), (2, .bool false)] ⟨rfl, rfl, trivial⟩ (fun _ => ?_)
    refine rp [0, 1, 0] ?_
    refine k0 (wt_none rfl _) rfl (v) (fun _ _ => exec_move (.tmp 0) (.inl rfl) _ rfl) ?_
    refine k1 (wt_none rfl _) rfl (.int .i64 ((l.length : Nat) : Int)) (x_len Tryd.sb.sl (.tmp 4) rfl (Rc.at hv m0) rfl) ?_
    refine k0 (wt_none rfl _) rfl (.bool true) (fun _ _ => x_gtr_t (.tmp 5) (.const (.int .i64 300)) _ _ rfl l.length 300 .i64 (by omega) rfl rfl) ?_
    refine kend ?_
    refine th_n ?_
    refine cdt rfl ?_
    refine sq ?_
    refine cz [(0, v), (2, .bool false), (6, .bool true)] ⟨rfl, rfl, rfl, trivial⟩ (fun _ => ?_)
    refine rp [2, 0] ?_
    refine kc (wt_none rfl _) rfl (x_cl0 rfl (by kernel_rfl)) (alive_any _ (ht.gr m0.below) (Nat.le_trans h2 m0.size)) ?_
    rintro _ ww1 ⟨rfl, mm2⟩
    have mm3 : Mo w ww1 [] := m0.gr mm2
    refine ⟨_, rfl, trivial, ?_⟩
    refine k0 (wt_none rfl _) rfl (.bool true) (fun _ _ => exec_move (.tmp 7) (.inr rfl) _ rfl) ?_
    refine kend ?_
    refine th_n ?_
    refine re ?_
    refine th_r ?_
    refine rt1 rfl ?_
    exact ⟨rfl, mm3.below⟩
  · skip
    refine cz [(0, v), (2, .bool false)] ⟨rfl, rfl, trivial⟩ (fun _ => ?_)
    refine rp [0, 1, 0] ?_
    refine k0 (wt_none rfl _) rfl (v) (fun _ _ => exec_move (.tmp 0) (.inl rfl) _ rfl) ?_
    refine k1 (wt_none rfl _) rfl (.int .i64 ((l.length : Nat) : Int)) (x_len Tryd.sb.sl (.tmp 4) rfl (Rc.at hv m0) rfl) ?_
    refine k0 (wt_none rfl _) rfl (.bool false) (fun _ _ => x_gtr_f (.tmp 5) (.const (.int .i64 300)) _ _ rfl l.length 300 .i64 (by omega) rfl rfl) ?_
    refine kend ?_
    refine th_n ?_
    refine cdf rfl ?_
    refine sk ?_
    refine th_n ?_
    refine sq ?_
    refine cz [(0, v), (2, .bool false), (6, .bool false)] ⟨rfl, rfl, rfl, trivial⟩ (fun _ => ?_)
    refine rp [2, 0, 2, 0] ?_
    refine k2 (wt_none rfl _) rfl (x_bld Tryd.sb 0 _ rfl m0 [] [] rfl (by decide) (fun _ h => absurd h List.not_mem_nil) rfl rfl) ?_
    rintro vv4 ww5 mm6
    refine ⟨trivial, ?_⟩
    refine k0 (wt_none rfl _) rfl (v) (fun _ _ => exec_move (.tmp 0) (.inl rfl) _ rfl) ?_
    refine k2 (wt_none rfl _) rfl (x_app Tryd.sb (.tmp 8) (.tmp 9) rfl mm6 0 rfl rfl (Rc.at hv mm6) (by simp only [cellsOf_length, Nat.mul_one]; try omega) (cellsOf_one _) (by omega) rfl) ?_
    rintro vv7 ww8 mm9
    have mm10 : Mo w ww8 [.own 5 1 vv7 l.length (cellsOf l)] := (by have h := mm9; rw [List.nil_append, Nat.zero_add] at h; exact h)
    refine ⟨trivial, ?_⟩
    refine k0 (wt_none rfl _) rfl (vv7) (fun _ _ => exec_move (.tmp 10) (.inr rfl) _ rfl) ?_
    refine kend ?_
    refine th_n ?_
    refine sq ?_
    refine cz [(0, v), (2, .bool false), (3, vv7), (6, .bool false)] ⟨rfl, rfl, rfl, rfl, trivial⟩ (fun _ => ?_)
    refine rp [2, 0, 0, 2, 0, 2, 0, 0, 0, 0, 1, 0, 1, 0, 0, 0] ?_
    refine kc (wt_none rfl _) rfl (x_cl0 rfl (by kernel_rfl)) (alive_any _ (ht.gr mm10.below) (Nat.le_trans h2 mm10.size)) ?_
    rintro _ ww11 ⟨rfl, mm12⟩
    have mm13 : Mo w ww11 [.own 5 1 vv7 l.length (cellsOf l)] := mm10.gr mm12
    refine ⟨_, rfl, trivial, ?_⟩
    refine k0 (wt_none rfl _) rfl (.bool true) (fun _ _ => exec_move (.tmp 11) (.inl rfl) _ rfl) ?_
    refine k0 (wt_some rfl rfl rfl rfl) rfl (vv7) (fun _ _ => exec_move (.tmp 3) (.inl rfl) _ rfl) ?_
    refine kc (wt_some rfl rfl rfl rfl) rfl (x_cl1 (v0 := vv7) rfl rfl (by kernel_rfl)) (shasum_any _ l vv7 _ ((mm13.rc 0 rfl).rd rfl) (ht.gr mm13.below) (Nat.le_trans h2 mm13.size) (by omega)) ?_
    rintro _ ww14 ⟨rfl, mm15⟩
    have mm16 : Mo w ww14 [.own 5 1 vv7 l.length (cellsOf l)] := mm13.gr mm15
    refine ⟨_, rfl, trivial, ?_⟩
    refine k0 (wt_some rfl rfl rfl rfl) rfl (v) (fun _ _ => exec_move (.tmp 0) (.inl rfl) _ rfl) ?_
    refine kc (wt_some rfl rfl rfl rfl) rfl (x_cl1 (v0 := v) rfl rfl (by kernel_rfl)) (sum_doc v l l.length _ rfl (Rc.at hv mm16) (by omega)) ?_
    rintro _ ww17 ⟨rfl, mm18⟩
    have mm19 : Mo w ww17 [.own 5 1 vv7 l.length (cellsOf l)] := mm16.gr mm18
    refine ⟨_, rfl, trivial, ?_⟩
    refine k0 (wt_some rfl rfl rfl rfl) rfl (.bool true) (fun _ _ => x_eqa Tryd.ah Tryd.u8 (by kernel_rfl) (.tmp 14) (.tmp 16) _ rfl (hsh l) (hsh l) (hsh_len _) (hsh_len _) true (decide_eq_true rfl) rfl rfl) ?_
    refine k0 (wt_none rfl _) rfl (.bool true) (fun _ _ => x_pick (.tmp 12) (.tmp 17) (.const (.bool false)) rfl true _ rfl rfl) ?_
    refine k0 (wt_none rfl _) rfl (.bool true) (fun _ _ => exec_move (.tmp 18) (.inl rfl) _ rfl) ?_
    refine k0 (wt_some rfl rfl rfl rfl) rfl (vv7) (fun _ _ => exec_move (.tmp 3) (.inl rfl) _ rfl) ?_
    refine k1 (wt_some rfl rfl rfl rfl) rfl (.string ⟨(l).toArray⟩) (x_cb Tryd.sb Tryd.u8 Tryd.str (.tmp 20) rfl (mm19.rc 0 rfl) (by first | rfl | omega) rfl) ?_
    refine k0 (wt_some rfl rfl rfl rfl) rfl (v) (fun _ _ => exec_move (.tmp 0) (.inl rfl) _ rfl) ?_
    refine k1 (wt_some rfl rfl rfl rfl) rfl (.string ⟨(l).toArray⟩) (x_cb Tryd.sb Tryd.u8 Tryd.str (.tmp 22) rfl (Rc.at hv mm19) (by first | rfl | omega) rfl) ?_
    refine k0 (wt_some rfl rfl rfl rfl) rfl (.bool true) (fun _ _ => x_eqs_t (.tmp 21) (.tmp 23) _ rfl (⟨(l).toArray⟩) rfl rfl) ?_
    refine k0 (wt_none rfl _) rfl (.bool true) (fun _ _ => x_pick (.tmp 19) (.tmp 24) (.const (.bool false)) rfl true _ rfl rfl) ?_
    refine k0 (wt_none rfl _) rfl (.bool true) (fun _ _ => exec_move (.tmp 25) (.inr rfl) _ rfl) ?_
    refine kend ?_
    refine th_n ?_
    refine re ?_
    refine rt1 rfl ?_
    exact ⟨rfl, mm19.below⟩


set_option maxHeartbeats 1000000 in
theorem made_law (tag : ByteArray) (v : Value) (l : List UInt8) (w : World) (hr : Rs w v l) (ht : Tabs w) (h2 : 2 ≤ w.heap.size) :
    Calls Tryd.prog 4 #[.string tag, v] w fun e w' => e = .returned (.bool true) ∧ Below w.heap.size w w' := by
  have hv : Rc w.heap.size w v l.length (cellsOf l) := hr
  have m0 := Mo.start w
  refine enter [.string tag, v] 31 Tryd.func4 rfl Tryd.ntmps4 (Nat.le_of_ble_eq_true rfl) ?_

  refine sq ?_
  refine cz [(0, .string tag), (1, v)] ⟨rfl, rfl, trivial⟩ (fun _ => ?_)
  refine rp [0] ?_
  refine k0 (wt_none rfl _) rfl (.bool false) (fun _ _ => exec_move (.const (.bool false)) (.inr rfl) _ rfl) ?_
  refine kend ?_
  refine th_n ?_
  refine sq ?_
  refine sq ?_
  by_cases h3 : l.length > 300
  · skip
    by_cases h4 : tag.size > 300
    · skip
      refine cz [(0, .string tag), (1, v), (4, .bool false)] ⟨rfl, rfl, rfl, trivial⟩ (fun _ => ?_)
      refine rp [0, 1, 0, 0, 0, 0, 0, 0] ?_
      refine k0 (wt_none rfl _) rfl (v) (fun _ _ => exec_move (.tmp 1) (.inl rfl) _ rfl) ?_
      refine k1 (wt_none rfl _) rfl (.int .i64 ((l.length : Nat) : Int)) (x_len Tryd.sb.sl (.tmp 5) rfl (Rc.at hv m0) rfl) ?_
      refine k0 (wt_none rfl _) rfl (.bool true) (fun _ _ => x_gtr_t (.tmp 6) (.const (.int .i64 300)) _ _ rfl l.length 300 .i64 (by omega) rfl rfl) ?_
      refine k0 (wt_none rfl _) rfl (.bool true) (fun _ _ => exec_move (.tmp 7) (.inl rfl) _ rfl) ?_
      refine kn (wt_not rfl rfl rfl rfl) ?_
      refine kn (wt_not rfl rfl rfl rfl) ?_
      refine kn (wt_not rfl rfl rfl rfl) ?_
      refine k0 (wt_none rfl _) rfl (.bool true) (fun _ _ => x_pick (.tmp 8) (.const (.bool true)) (.tmp 11) rfl true _ rfl rfl) ?_
      refine kend ?_
      refine th_n ?_
      refine cdt rfl ?_
      refine sq ?_
      refine cz [(0, .string tag), (1, v), (4, .bool false), (12, .bool true)] ⟨rfl, rfl, rfl, rfl, trivial⟩ (fun _ => ?_)
      refine rp [2, 0] ?_
      refine kc (wt_none rfl _) rfl (x_cl0 rfl (by kernel_rfl)) (alive_any _ (ht.gr m0.below) (Nat.le_trans h2 m0.size)) ?_
      rintro _ ww1 ⟨rfl, mm2⟩
      have mm3 : Mo w ww1 [] := m0.gr mm2
      refine ⟨_, rfl, trivial, ?_⟩
      refine k0 (wt_none rfl _) rfl (.bool true) (fun _ _ => exec_move (.tmp 13) (.inr rfl) _ rfl) ?_
      refine kend ?_
      refine th_n ?_
      refine re ?_
      refine th_r ?_
      refine rt1 rfl ?_
      exact ⟨rfl, mm3.below⟩
    · skip
      refine cz [(0, .string tag), (1, v), (4, .bool false)] ⟨rfl, rfl, rfl, trivial⟩ (fun _ => ?_)
      refine rp [0, 1, 0, 0, 0, 0, 0, 0] ?_
      refine k0 (wt_none rfl _) rfl (v) (fun _ _ => exec_move (.tmp 1) (.inl rfl) _ rfl) ?_
      refine k1 (wt_none rfl _) rfl (.int .i64 ((l.length : Nat) : Int)) (x_len Tryd.sb.sl (.tmp 5) rfl (Rc.at hv m0) rfl) ?_
      refine k0 (wt_none rfl _) rfl (.bool true) (fun _ _ => x_gtr_t (.tmp 6) (.const (.int .i64 300)) _ _ rfl l.length 300 .i64 (by omega) rfl rfl) ?_
      refine k0 (wt_none rfl _) rfl (.bool true) (fun _ _ => exec_move (.tmp 7) (.inl rfl) _ rfl) ?_
      refine kn (wt_not rfl rfl rfl rfl) ?_
      refine kn (wt_not rfl rfl rfl rfl) ?_
      refine kn (wt_not rfl rfl rfl rfl) ?_
      refine k0 (wt_none rfl _) rfl (.bool true) (fun _ _ => x_pick (.tmp 8) (.const (.bool true)) (.tmp 11) rfl true _ rfl rfl) ?_
      refine kend ?_
      refine th_n ?_
      refine cdt rfl ?_
      refine sq ?_
      refine cz [(0, .string tag), (1, v), (4, .bool false), (12, .bool true)] ⟨rfl, rfl, rfl, rfl, trivial⟩ (fun _ => ?_)
      refine rp [2, 0] ?_
      refine kc (wt_none rfl _) rfl (x_cl0 rfl (by kernel_rfl)) (alive_any _ (ht.gr m0.below) (Nat.le_trans h2 m0.size)) ?_
      rintro _ ww4 ⟨rfl, mm5⟩
      have mm6 : Mo w ww4 [] := m0.gr mm5
      refine ⟨_, rfl, trivial, ?_⟩
      refine k0 (wt_none rfl _) rfl (.bool true) (fun _ _ => exec_move (.tmp 13) (.inr rfl) _ rfl) ?_
      refine kend ?_
      refine th_n ?_
      refine re ?_
      refine th_r ?_
      refine rt1 rfl ?_
      exact ⟨rfl, mm6.below⟩
  · skip
    by_cases h4 : tag.size > 300
    · skip
      refine cz [(0, .string tag), (1, v), (4, .bool false)] ⟨rfl, rfl, rfl, trivial⟩ (fun _ => ?_)
      refine rp [0, 1, 0, 0, 0, 0, 0, 0] ?_
      refine k0 (wt_none rfl _) rfl (v) (fun _ _ => exec_move (.tmp 1) (.inl rfl) _ rfl) ?_
      refine k1 (wt_none rfl _) rfl (.int .i64 ((l.length : Nat) : Int)) (x_len Tryd.sb.sl (.tmp 5) rfl (Rc.at hv m0) rfl) ?_
      refine k0 (wt_none rfl _) rfl (.bool false) (fun _ _ => x_gtr_f (.tmp 6) (.const (.int .i64 300)) _ _ rfl l.length 300 .i64 (by omega) rfl rfl) ?_
      refine k0 (wt_none rfl _) rfl (.bool false) (fun _ _ => exec_move (.tmp 7) (.inl rfl) _ rfl) ?_
      refine k0 (wt_some rfl rfl rfl rfl) rfl (.string tag) (fun _ _ => exec_move (.tmp 0) (.inl rfl) _ rfl) ?_
      refine k0 (wt_some rfl rfl rfl rfl) rfl (.int .i64 ((tag.size : Nat) : Int)) (fun _ _ => x_lens Tryd.str (.tmp 9) rfl _ rfl) ?_
      refine k0 (wt_some rfl rfl rfl rfl) rfl (.bool true) (fun _ _ => x_gtr_t (.tmp 10) (.const (.int .i64 300)) _ _ rfl tag.size 300 .i64 (by omega) rfl rfl) ?_
      refine k0 (wt_none rfl _) rfl (.bool true) (fun _ _ => x_pick (.tmp 8) (.const (.bool true)) (.tmp 11) rfl false _ rfl rfl) ?_
      refine kend ?_
      refine th_n ?_
      refine cdt rfl ?_
      refine sq ?_
      refine cz [(0, .string tag), (1, v), (4, .bool false), (12, .bool true)] ⟨rfl, rfl, rfl, rfl, trivial⟩ (fun _ => ?_)
      refine rp [2, 0] ?_
      refine kc (wt_none rfl _) rfl (x_cl0 rfl (by kernel_rfl)) (alive_any _ (ht.gr m0.below) (Nat.le_trans h2 m0.size)) ?_
      rintro _ ww7 ⟨rfl, mm8⟩
      have mm9 : Mo w ww7 [] := m0.gr mm8
      refine ⟨_, rfl, trivial, ?_⟩
      refine k0 (wt_none rfl _) rfl (.bool true) (fun _ _ => exec_move (.tmp 13) (.inr rfl) _ rfl) ?_
      refine kend ?_
      refine th_n ?_
      refine re ?_
      refine th_r ?_
      refine rt1 rfl ?_
      exact ⟨rfl, mm9.below⟩
    · skip
      refine cz [(0, .string tag), (1, v), (4, .bool false)] ⟨rfl, rfl, rfl, trivial⟩ (fun _ => ?_)
      refine rp [0, 1, 0, 0, 0, 0, 0, 0] ?_
      refine k0 (wt_none rfl _) rfl (v) (fun _ _ => exec_move (.tmp 1) (.inl rfl) _ rfl) ?_
      refine k1 (wt_none rfl _) rfl (.int .i64 ((l.length : Nat) : Int)) (x_len Tryd.sb.sl (.tmp 5) rfl (Rc.at hv m0) rfl) ?_
      refine k0 (wt_none rfl _) rfl (.bool false) (fun _ _ => x_gtr_f (.tmp 6) (.const (.int .i64 300)) _ _ rfl l.length 300 .i64 (by omega) rfl rfl) ?_
      refine k0 (wt_none rfl _) rfl (.bool false) (fun _ _ => exec_move (.tmp 7) (.inl rfl) _ rfl) ?_
      refine k0 (wt_some rfl rfl rfl rfl) rfl (.string tag) (fun _ _ => exec_move (.tmp 0) (.inl rfl) _ rfl) ?_
      refine k0 (wt_some rfl rfl rfl rfl) rfl (.int .i64 ((tag.size : Nat) : Int)) (fun _ _ => x_lens Tryd.str (.tmp 9) rfl _ rfl) ?_
      refine k0 (wt_some rfl rfl rfl rfl) rfl (.bool false) (fun _ _ => x_gtr_f (.tmp 10) (.const (.int .i64 300)) _ _ rfl tag.size 300 .i64 (by omega) rfl rfl) ?_
      refine k0 (wt_none rfl _) rfl (.bool false) (fun _ _ => x_pick (.tmp 8) (.const (.bool true)) (.tmp 11) rfl false _ rfl rfl) ?_
      refine kend ?_
      refine th_n ?_
      refine cdf rfl ?_
      refine sk ?_
      refine th_n ?_
      refine sq ?_
      refine cz [(0, .string tag), (1, v), (4, .bool false), (12, .bool false)] ⟨rfl, rfl, rfl, rfl, trivial⟩ (fun _ => ?_)
      refine rp [2, 0, 0, 2, 0, 2, 0, 0, 0, 0, 0, 2, 0, 0, 2, 0, 0, 0] ?_
      refine kc (wt_none rfl _) rfl (x_cl0 rfl (by kernel_rfl)) (alive_any _ (ht.gr m0.below) (Nat.le_trans h2 m0.size)) ?_
      rintro _ ww10 ⟨rfl, mm11⟩
      have mm12 : Mo w ww10 [] := m0.gr mm11
      refine ⟨_, rfl, trivial, ?_⟩
      refine k0 (wt_none rfl _) rfl (.bool true) (fun _ _ => exec_move (.tmp 14) (.inl rfl) _ rfl) ?_
      refine k0 (wt_some rfl rfl rfl rfl) rfl (v) (fun _ _ => exec_move (.tmp 1) (.inl rfl) _ rfl) ?_
      refine kc (wt_some rfl rfl rfl rfl) rfl (x_cl1 (v0 := v) rfl rfl (by kernel_rfl)) (double_any _ l v _ ((Rc.at hv mm12).rd rfl) (ht.gr mm12.below) (Nat.le_trans h2 mm12.size) (by omega)) ?_
      rintro _ ww13 ⟨rfl, mm14⟩
      have mm15 : Mo w ww13 [] := mm12.gr mm14
      refine ⟨_, rfl, trivial, ?_⟩
      refine k0 (wt_some rfl rfl rfl rfl) rfl (v) (fun _ _ => exec_move (.tmp 1) (.inl rfl) _ rfl) ?_
      refine kc (wt_some rfl rfl rfl rfl) rfl (x_cl1 (v0 := v) rfl rfl (by kernel_rfl)) (double_doc v l l.length _ rfl (Rc.at hv mm15) (by omega)) ?_
      rintro _ ww16 ⟨rfl, mm17⟩
      have mm18 : Mo w ww16 [] := mm15.gr mm17
      refine ⟨_, rfl, trivial, ?_⟩
      refine k0 (wt_some rfl rfl rfl rfl) rfl (.bool true) (fun _ _ => x_eqa Tryd.ah Tryd.u8 (by kernel_rfl) (.tmp 17) (.tmp 19) _ rfl (hsh (hsh l)) (hsh (hsh l)) (hsh_len _) (hsh_len _) true (decide_eq_true rfl) rfl rfl) ?_
      refine k0 (wt_none rfl _) rfl (.bool true) (fun _ _ => x_pick (.tmp 15) (.tmp 20) (.const (.bool false)) rfl true _ rfl rfl) ?_
      refine k0 (wt_none rfl _) rfl (.bool true) (fun _ _ => exec_move (.tmp 21) (.inl rfl) _ rfl) ?_
      refine k0 (wt_some rfl rfl rfl rfl) rfl (.string tag) (fun _ _ => exec_move (.tmp 0) (.inl rfl) _ rfl) ?_
      refine k0 (wt_some rfl rfl rfl rfl) rfl (v) (fun _ _ => exec_move (.tmp 1) (.inl rfl) _ rfl) ?_
      refine kc (wt_some rfl rfl rfl rfl) rfl (x_cl2 (v0 := .string tag) (v1 := v) rfl rfl rfl (by kernel_rfl)) (tagged_any _ tag l v _ ((Rc.at hv mm18).rd rfl) (ht.gr mm18.below) (Nat.le_trans h2 mm18.size) (by omega) (by omega)) ?_
      rintro _ ww19 ⟨rfl, mm20⟩
      have mm21 : Mo w ww19 [] := mm18.gr mm20
      refine ⟨_, rfl, trivial, ?_⟩
      refine k0 (wt_some rfl rfl rfl rfl) rfl (.string tag) (fun _ _ => exec_move (.tmp 0) (.inl rfl) _ rfl) ?_
      refine k0 (wt_some rfl rfl rfl rfl) rfl (v) (fun _ _ => exec_move (.tmp 1) (.inl rfl) _ rfl) ?_
      refine kc (wt_some rfl rfl rfl rfl) rfl (x_cl2 (v0 := .string tag) (v1 := v) rfl rfl rfl (by kernel_rfl)) (tagged_doc tag v l l.length _ rfl (Rc.at hv mm21) (by omega) (by omega)) ?_
      rintro _ ww22 ⟨rfl, mm23⟩
      have mm24 : Mo w ww22 [] := mm21.gr mm23
      refine ⟨_, rfl, trivial, ?_⟩
      refine k0 (wt_some rfl rfl rfl rfl) rfl (.bool true) (fun _ _ => x_eqa Tryd.ah Tryd.u8 (by kernel_rfl) (.tmp 25) (.tmp 28) _ rfl (hsh (hsh tag.data.toList ++ hsh tag.data.toList ++ l)) (hsh (hsh tag.data.toList ++ hsh tag.data.toList ++ l)) (hsh_len _) (hsh_len _) true (decide_eq_true rfl) rfl rfl) ?_
      refine k0 (wt_none rfl _) rfl (.bool true) (fun _ _ => x_pick (.tmp 22) (.tmp 29) (.const (.bool false)) rfl true _ rfl rfl) ?_
      refine k0 (wt_none rfl _) rfl (.bool true) (fun _ _ => exec_move (.tmp 30) (.inr rfl) _ rfl) ?_
      refine kend ?_
      refine th_n ?_
      refine re ?_
      refine rt1 rfl ?_
      exact ⟨rfl, mm24.below⟩


set_option maxHeartbeats 1000000 in
theorem long_law (c : UInt8) (n : Int) (w : World) (ht : Tabs w) (h2 : 2 ≤ w.heap.size) :
    Calls Tryd.prog 7 #[.int .u8 ((c.toNat : Nat) : Int), .int .i64 n] w fun e w' => e = .returned (.bool true) ∧ Below w.heap.size w w' := by
  obtain ⟨k, hk⟩ : ∃ k, (n % 2048).toNat = k := ⟨_, rfl⟩
  have hk2 : k < 2048 := by omega
  have hll : ∀ i, i ≤ k → (List.replicate i c ++ List.replicate (k - i) 0).length = k := fun i hi => by simp; omega
  have m0 := Mo.start w
  refine enter [.int .u8 ((c.toNat : Nat) : Int), .int .i64 n] 29 Tryd.func7 rfl Tryd.ntmps7 (Nat.le_of_ble_eq_true rfl) ?_

  refine sq ?_
  refine cz [(0, .int .u8 ((c.toNat : Nat) : Int)), (1, .int .i64 n)] ⟨rfl, rfl, trivial⟩ (fun _ => ?_)
  refine rp [0] ?_
  refine k0 (wt_none rfl _) rfl (.bool false) (fun _ _ => exec_move (.const (.bool false)) (.inr rfl) _ rfl) ?_
  refine kend ?_
  refine th_n ?_
  refine sq ?_
  refine cz [(0, .int .u8 ((c.toNat : Nat) : Int)), (1, .int .i64 n), (4, .bool false)] ⟨rfl, rfl, rfl, trivial⟩ (fun _ => ?_)
  refine rp [0, 0, 0] ?_
  refine k0 (wt_none rfl _) rfl (.int .i64 n) (fun _ _ => exec_move (.tmp 1) (.inl rfl) _ rfl) ?_
  refine k0 (wt_none rfl _) rfl (.int .i64 ((k : Nat) : Int)) (fun _ _ => by rw [← hk]; exact x_and2047 (.tmp 8) (.const (.int .i64 2047)) _ rfl n rfl rfl) ?_
  refine k0 (wt_none rfl _) rfl (.int .i64 ((k : Nat) : Int)) (fun _ _ => exec_move (.tmp 9) (.inr rfl) _ rfl) ?_
  refine kend ?_
  refine th_n ?_
  refine sq ?_
  refine cz [(0, .int .u8 ((c.toNat : Nat) : Int)), (1, .int .i64 n), (4, .bool false), (5, .int .i64 ((k : Nat) : Int))] ⟨rfl, rfl, rfl, rfl, trivial⟩ (fun _ => ?_)
  refine rp [0, 2, 0] ?_
  refine k0 (wt_none rfl _) rfl (.int .i64 ((k : Nat) : Int)) (fun _ _ => exec_move (.tmp 5) (.inl rfl) _ rfl) ?_
  refine k2 (wt_none rfl _) rfl (x_mk Tryd.sb (.tmp 10) (.tmp 10) rfl m0 .i64 .i64 k (by omega) rfl rfl) ?_
  rintro vv1 ww2 mm3
  rw [made8] at mm3
  refine ⟨trivial, ?_⟩
  refine k0 (wt_none rfl _) rfl (vv1) (fun _ _ => exec_move (.tmp 11) (.inr rfl) _ rfl) ?_
  refine kend ?_
  refine th_n ?_
  refine sq ?_
  refine sq ?_
  refine cz [(0, .int .u8 ((c.toNat : Nat) : Int)), (1, .int .i64 n), (4, .bool false), (5, .int .i64 ((k : Nat) : Int)), (6, vv1)] ⟨rfl, rfl, rfl, rfl, rfl, trivial⟩ (fun _ => ?_)
  refine rp [0] ?_
  refine k0 (wt_none rfl _) rfl (.int .i64 0) (fun _ _ => exec_move (.const (.int .i64 0)) (.inr rfl) _ rfl) ?_
  refine kend ?_
  refine th_n ?_
  refine bk ?_
  have mm4 : Mo w ww2 [.own 5 1 vv1 k (cellsOf (List.replicate 0 c ++ List.replicate (k - 0) 0))] := (by have h := mm3; rw [show cellsOf (List.replicate k 0) = cellsOf (List.replicate 0 c ++ List.replicate (k - 0) 0) from (by rfl)] at h; exact h)
  refine lp (fun (x : Nat × Value) => [(0, .int .u8 ((c.toNat : Nat) : Int)), (5, .int .i64 ((k : Nat) : Int)), (6, x.2), (7, .int .i64 ((x.1 : Nat) : Int))]) (fun (x : Nat × Value) w1 => x.1 ≤ k ∧ Mo w w1 [.own 5 1 x.2 k (cellsOf (List.replicate x.1 c ++ List.replicate (k - x.1) 0))]) (fun (x : Nat × Value) => k - x.1) (⟨0, vv1⟩) ⟨rfl, rfl, rfl, rfl, trivial⟩ ⟨(show 0 ≤ k from (by omega)), (show Mo w ww2 [.own 5 1 vv1 k (cellsOf (List.replicate 0 c ++ List.replicate (k - 0) 0))] from mm4)⟩ ?_
  rintro ⟨i, u6⟩ _ ww6 ⟨hh7, mm5⟩
  replace hh7 : i ≤ k := hh7
  replace mm5 : Mo w ww6 [.own 5 1 u6 k (cellsOf (List.replicate i c ++ List.replicate (k - i) 0))] := mm5
  refine cz [(0, .int .u8 ((c.toNat : Nat) : Int)), (5, .int .i64 ((k : Nat) : Int)), (6, u6), (7, .int .i64 ((i : Nat) : Int))] ⟨rfl, rfl, rfl, rfl, trivial⟩ (fun _ => ?_)
  by_cases hlt : i < k
  · -- round
    refine sq ?_
    refine sq ?_
    refine cz [(0, .int .u8 ((c.toNat : Nat) : Int)), (5, .int .i64 ((k : Nat) : Int)), (6, u6), (7, .int .i64 ((i : Nat) : Int))] ⟨rfl, rfl, rfl, rfl, trivial⟩ (fun _ => ?_)
    refine rp [0, 0, 0] ?_
    refine k0 (wt_none rfl _) rfl (.int .i64 ((i : Nat) : Int)) (fun _ _ => exec_move (.tmp 7) (.inl rfl) _ rfl) ?_
    refine k0 (wt_none rfl _) rfl (.int .i64 ((k : Nat) : Int)) (fun _ _ => exec_move (.tmp 5) (.inl rfl) _ rfl) ?_
    refine k0 (wt_none rfl _) rfl (.bool true) (fun _ _ => x_lss_t (.tmp 12) (.tmp 13) _ _ rfl i k .i64 (by omega) rfl rfl) ?_
    refine kend ?_
    refine th_n ?_
    refine cdt rfl ?_
    refine sk ?_
    refine th_n ?_
    refine sq ?_
    refine bk ?_
    refine cz [(0, .int .u8 ((c.toNat : Nat) : Int)), (5, .int .i64 ((k : Nat) : Int)), (6, u6), (7, .int .i64 ((i : Nat) : Int)), (14, .bool true)] ⟨rfl, rfl, rfl, rfl, rfl, trivial⟩ (fun _ => ?_)
    refine rp [0, 0, 0, 1, 2] ?_
    refine k0 (wt_none rfl _) rfl (u6) (fun _ _ => exec_move (.tmp 6) (.inl rfl) _ rfl) ?_
    refine k0 (wt_none rfl _) rfl (.int .i64 ((i : Nat) : Int)) (fun _ _ => exec_move (.tmp 7) (.inl rfl) _ rfl) ?_
    refine k0 (wt_none rfl _) rfl (.int .u8 ((c.toNat : Nat) : Int)) (fun _ _ => exec_move (.tmp 0) (.inl rfl) _ rfl) ?_
    refine k1 (wt_none rfl _) rfl (eP u6 i) (x_ep Tryd.sb (.tmp 17) (.tmp 18) rfl (mm5.rc 0 rfl) i .i64 i (Nat.mul_one _) (by omega) rfl _ rfl rfl) ?_
    refine ks (wt_none rfl _) rfl rfl (x_set (.tmp 20) (.tmp 19) rfl mm5 0 rfl i [.int .u8 ((c.toNat : Nat) : Int)] (cellsOf (List.replicate (i + 1) c ++ List.replicate (k - (i + 1)) 0)) Tryd.one8 (show _ + 1 ≤ _ by rw [cellsOf_length]; rw [hll i (by omega)]; omega) (Nat.zero_lt_succ _) (fun _ h => by rw [List.mem_singleton.1 h]; rfl) (by rw [cells_set8 (by rw [hll i (by omega)]; omega), rep_set k i c hlt]) rfl (.int .u8 ((c.toNat : Nat) : Int)) rfl rfl) ?_
    rintro ww8 mm9
    have mm10 : Mo w ww8 [.own 5 1 u6 k (cellsOf (List.replicate (i + 1) c ++ List.replicate (k - (i + 1)) 0))] := mm9
    refine ⟨trivial, ?_⟩
    refine kend ?_
    refine ib_n ?_
    refine th_n ?_
    refine cz [(0, .int .u8 ((c.toNat : Nat) : Int)), (5, .int .i64 ((k : Nat) : Int)), (6, u6), (7, .int .i64 ((i : Nat) : Int)), (14, .bool true)] ⟨rfl, rfl, rfl, rfl, rfl, trivial⟩ (fun _ => ?_)
    refine rp [0, 0, 0] ?_
    refine k0 (wt_none rfl _) rfl (.int .i64 ((i : Nat) : Int)) (fun _ _ => exec_move (.tmp 7) (.inl rfl) _ rfl) ?_
    refine k0 (wt_none rfl _) rfl (.int .i64 ((i + 1 : Nat) : Int)) (fun _ _ => x_add (.tmp 15) (.const (.int .i64 1)) _ _ rfl i 1 (i + 1) .i64 (by exact ⟨by omega, (show _ < 9223372036854775808 by omega)⟩) rfl rfl) ?_
    refine k0 (wt_none rfl _) rfl (.int .i64 ((i + 1 : Nat) : Int)) (fun _ _ => exec_move (.tmp 16) (.inr rfl) _ rfl) ?_
    refine kend ?_
    refine th_n ?_
    exact ⟨_, (⟨i + 1, u6⟩ : Nat × Value), rfl, ⟨rfl, rfl, rfl, rfl, trivial⟩, ⟨(show (i + 1) ≤ k from (by omega)), (show Mo w ww8 [.own 5 1 u6 k (cellsOf (List.replicate (i + 1) c ++ List.replicate (k - (i + 1)) 0))] from mm10)⟩, (show k - (i + 1) < k - i by omega)⟩
  · -- behind the loop
    refine sq ?_
    refine sq ?_
    refine cz [(0, .int .u8 ((c.toNat : Nat) : Int)), (5, .int .i64 ((k : Nat) : Int)), (6, u6), (7, .int .i64 ((i : Nat) : Int))] ⟨rfl, rfl, rfl, rfl, trivial⟩ (fun _ => ?_)
    refine rp [0, 0, 0] ?_
    refine k0 (wt_none rfl _) rfl (.int .i64 ((i : Nat) : Int)) (fun _ _ => exec_move (.tmp 7) (.inl rfl) _ rfl) ?_
    refine k0 (wt_none rfl _) rfl (.int .i64 ((k : Nat) : Int)) (fun _ _ => exec_move (.tmp 5) (.inl rfl) _ rfl) ?_
    refine k0 (wt_none rfl _) rfl (.bool false) (fun _ _ => x_lss_f (.tmp 12) (.tmp 13) _ _ rfl i k .i64 (by omega) rfl rfl) ?_
    refine kend ?_
    refine th_n ?_
    refine cdf rfl ?_
    refine ex ?_
    refine th_x ?_
    refine th_x ?_
    refine ib_x ?_
    refine th_n ?_
    refine sq ?_
    refine cz [(0, .int .u8 ((c.toNat : Nat) : Int)), (5, .int .i64 ((k : Nat) : Int)), (6, u6), (7, .int .i64 ((i : Nat) : Int)), (14, .bool false)] ⟨rfl, rfl, rfl, rfl, rfl, trivial⟩ (fun _ => ?_)
    refine rp [2, 0, 0, 2, 0, 2, 0, 0, 0] ?_
    refine kc (wt_none rfl _) rfl (x_cl0 rfl (by kernel_rfl)) (alive_any _ (ht.gr mm5.below) (Nat.le_trans h2 mm5.size)) ?_
    rintro _ ww11 ⟨rfl, mm12⟩
    have mm13 : Mo w ww11 [.own 5 1 u6 k (cellsOf (List.replicate i c ++ List.replicate (k - i) 0))] := mm5.gr mm12
    refine ⟨_, rfl, trivial, ?_⟩
    refine k0 (wt_none rfl _) rfl (.bool true) (fun _ _ => exec_move (.tmp 21) (.inl rfl) _ rfl) ?_
    refine k0 (wt_some rfl rfl rfl rfl) rfl (u6) (fun _ _ => exec_move (.tmp 6) (.inl rfl) _ rfl) ?_
    refine kc (wt_some rfl rfl rfl rfl) rfl (x_cl1 (v0 := u6) rfl rfl (by kernel_rfl)) (shasum_any _ (List.replicate i c ++ List.replicate (k - i) 0) u6 _ ((mm13.rc 0 rfl).rd (by rw [hll i (by omega)])) (ht.gr mm13.below) (Nat.le_trans h2 mm13.size) (by rw [hll i (by omega)]; omega)) ?_
    rintro _ ww14 ⟨rfl, mm15⟩
    have mm16 : Mo w ww14 [.own 5 1 u6 k (cellsOf (List.replicate i c ++ List.replicate (k - i) 0))] := mm13.gr mm15
    refine ⟨_, rfl, trivial, ?_⟩
    refine k0 (wt_some rfl rfl rfl rfl) rfl (u6) (fun _ _ => exec_move (.tmp 6) (.inl rfl) _ rfl) ?_
    refine kc (wt_some rfl rfl rfl rfl) rfl (x_cl1 (v0 := u6) rfl rfl (by kernel_rfl)) (sum_doc u6 (List.replicate i c ++ List.replicate (k - i) 0) k _ (by rw [hll i (by omega)]) (mm16.rc 0 rfl) (by rw [hll i (by omega)]; omega)) ?_
    rintro _ ww17 ⟨rfl, mm18⟩
    have mm19 : Mo w ww17 [.own 5 1 u6 k (cellsOf (List.replicate i c ++ List.replicate (k - i) 0))] := mm16.gr mm18
    refine ⟨_, rfl, trivial, ?_⟩
    refine k0 (wt_some rfl rfl rfl rfl) rfl (.bool true) (fun _ _ => x_eqa Tryd.ah Tryd.u8 (by kernel_rfl) (.tmp 24) (.tmp 26) _ rfl (hsh (List.replicate i c ++ List.replicate (k - i) 0)) (hsh (List.replicate i c ++ List.replicate (k - i) 0)) (hsh_len _) (hsh_len _) true (decide_eq_true rfl) rfl rfl) ?_
    refine k0 (wt_none rfl _) rfl (.bool true) (fun _ _ => x_pick (.tmp 22) (.tmp 27) (.const (.bool false)) rfl true _ rfl rfl) ?_
    refine k0 (wt_none rfl _) rfl (.bool true) (fun _ _ => exec_move (.tmp 28) (.inr rfl) _ rfl) ?_
    refine kend ?_
    refine th_n ?_
    refine re ?_
    refine rt1 rfl ?_
    exact ⟨rfl, mm19.below⟩

end Go.Proofs.YtkgenageeiaacaaDoor
