/-
  Contracts of the document's Sum, Double, Tagged.
-/
import Derived.Test.YtkgenageeiaacaaDoorD2
namespace Go.Proofs.YtkgenageeiaacaaDoor
open Go.RowKit
theorem Tryd.str : Tryd.prog.underlying 9 = some .string := by kernel_rfl
theorem outL_len (n : List Nat) (i : Nat) : (cellsOf (outL n i)).length = 32 := by rw [cellsOf_length, outL_length]
theorem hsh_len (l : List UInt8) : (cellsOf (hsh l)).length = 32 := by rw [cellsOf_length, hsh_length]
theorem pad_blocks (l : List UInt8) : (pad l).length = 64 * ((pad l).length / 64) := by
  have h : (pad l).length = l.length + (9 + nz l.length) := by unfold pad; rw [List.length_append, tailL_length]
  have h2 : (l.length + 1 + nz l.length) % 64 = 56 := by unfold nz; omega
  omega

set_option maxHeartbeats 1000000 in
theorem sum_doc (v : Value) (b : List UInt8) (nb : Nat) (w : World) (hn : b.length = nb) (hv : Rc w.heap.size w v nb (cellsOf b)) (hN : b.length ≤ 900000) :
    Calls Tryd.prog 12 #[v] w fun e w' => e = .returned (.agg (cellsOf (hsh b)).toArray) ∧ Below w.heap.size w w' := by
  obtain ⟨P, hPe⟩ : ∃ P, pad b = P := ⟨_, rfl⟩
  obtain ⟨K, eK⟩ : ∃ K, P.length / 64 = K := ⟨_, rfl⟩
  have hP : P.length = 64 * K := by rw [← eK, ← hPe]; exact pad_blocks b
  have hP2 : P.length ≤ 900200 := by rw [← hPe]; unfold pad; rw [List.length_append, tailL_length]; have := nz_lt b.length; omega
  have hH : hsh b = outL (ab firstL K P) 32 := by unfold hsh; rw [hPe, eK]
  have hPD : ∀ w', Rc w'.heap.size w' v nb (cellsOf b) → Calls Tryd.prog 23 #[v] w' fun e w'' => ∃ v', e = .returned v' ∧ Mo w' w'' [.own 5 1 v' (64 * K) (cellsOf P)] := fun w' h => by
    have h2 := padded_doc _ v b w' (h.rd hn.symm) hN
    rw [hPe, hP] at h2
    exact h2
  have hA : ∀ q, (ab firstL q P).length = 8 := fun q => ab_length _ _ _
  have hbk : ∀ q, q < K → ((P.take (64 * q + 64)).drop (64 * q)).length = 64 := fun q hq => by rw [List.length_drop, List.length_take, hP]; omega
  have hdt : ∀ q, (P.take (64 * q + 64)).drop (64 * q) = (P.drop (64 * q)).take 64 := fun q => by
    have e9 : 64 * q + 64 - 64 * q = 64 := by omega
    rw [List.drop_take, e9]
  have hab : ∀ q, q < K → tk (ab firstL q P) ((P.take (64 * q + 64)).drop (64 * q)) = ab firstL (q + 1) P := fun q hq => by
    rw [hdt q]; exact (ab_last firstL q P (by rw [hP]; omega)).symm
  have m0 := Mo.start w
  refine enter [v] 47 Tryd.func12 rfl Tryd.ntmps12 (Nat.le_of_ble_eq_true rfl) ?_
  refine sq ?_
  refine cz [(0, v)] ⟨rfl, trivial⟩ (fun _ => ?_)
  refine rp [2] ?_
  refine k2 (wt_none rfl _) rfl (x_alc Tryd.ah rfl m0 (cellsOf (List.replicate 32 0)) rfl) ?_
  rintro _ ww2 ⟨gg4, rfl, mm3⟩
  refine ⟨trivial, ?_⟩
  refine kend ?_
  refine th_n ?_
  refine sq ?_
  refine cz [(0, v), (2, .pointer (some ⟨gg4, 0, none⟩))] ⟨rfl, rfl, trivial⟩ (fun _ => ?_)
  refine rp [2, 0] ?_
  refine k2 (wt_none rfl _) rfl (x_bld Tryd.sn 8 _ rfl mm3 (c32 firstL) (c32 firstL) rfl (by decide) (one_size (cells_oc32 _)) (one_flat (cells_oc32 _)) rfl) ?_
  rintro vv5 ww6 mm7
  refine ⟨trivial, ?_⟩
  refine k0 (wt_none rfl _) rfl (vv5) (fun _ _ => exec_move (.tmp 9) (.inr rfl) _ rfl) ?_
  refine kend ?_
  refine th_n ?_
  refine sq ?_
  refine cz [(0, v), (2, .pointer (some ⟨gg4, 0, none⟩)), (3, vv5)] ⟨rfl, rfl, rfl, trivial⟩ (fun _ => ?_)
  refine rp [2, 0] ?_
  refine kc (wt_none rfl _) rfl (x_cl0 rfl (by kernel_rfl)) (steps_doc _) ?_
  rintro _ ww8 ⟨vv10, rfl, mm9⟩
  have mm11 : Mo w ww8 [.own 38 1 vv10 64 (c32 stepsL), .own 38 1 vv5 8 (c32 firstL), .arr gg4 24 (cellsOf (List.replicate 32 0))] := mm7.join mm9
  refine ⟨_, rfl, trivial, ?_⟩
  refine k0 (wt_none rfl _) rfl (vv10) (fun _ _ => exec_move (.tmp 10) (.inr rfl) _ rfl) ?_
  refine kend ?_
  refine th_n ?_
  refine sq ?_
  refine cz [(0, v), (2, .pointer (some ⟨gg4, 0, none⟩)), (3, vv5), (4, vv10)] ⟨rfl, rfl, rfl, rfl, trivial⟩ (fun _ => ?_)
  refine rp [0, 2, 0] ?_
  refine k0 (wt_none rfl _) rfl (v) (fun _ _ => exec_move (.tmp 0) (.inl rfl) _ rfl) ?_
  refine kc (wt_none rfl _) rfl (x_cl1 (v0 := v) rfl rfl (by kernel_rfl)) (hPD _ (Rc.at hv mm11)) ?_
  rintro _ ww12 ⟨vv14, rfl, mm13⟩
  have mm15 : Mo w ww12 [.own 5 1 vv14 (64 * K) (cellsOf P), .own 38 1 vv10 64 (c32 stepsL), .own 38 1 vv5 8 (c32 firstL), .arr gg4 24 (cellsOf (List.replicate 32 0))] := mm11.join mm13
  refine ⟨_, rfl, trivial, ?_⟩
  refine k0 (wt_none rfl _) rfl (vv14) (fun _ _ => exec_move (.tmp 12) (.inr rfl) _ rfl) ?_
  refine kend ?_
  refine th_n ?_
  refine sq ?_
  refine sq ?_
  refine cz [(0, v), (2, .pointer (some ⟨gg4, 0, none⟩)), (3, vv5), (4, vv10), (5, vv14)] ⟨rfl, rfl, rfl, rfl, rfl, trivial⟩ (fun _ => ?_)
  refine rp [0] ?_
  refine k0 (wt_none rfl _) rfl (.int .i64 0) (fun _ _ => exec_move (.const (.int .i64 0)) (.inr rfl) _ rfl) ?_
  refine kend ?_
  refine th_n ?_
  refine bk ?_
  have mm16 : Mo w ww12 [.own 5 1 vv14 (64 * K) (cellsOf P), .own 38 1 vv10 64 (c32 stepsL), .own 38 1 vv5 8 (c32 (ab firstL 0 P)), .arr gg4 24 (cellsOf (List.replicate 32 0))] := (by have h := mm15; rw [show c32 firstL = c32 (ab firstL 0 P) from (by rfl)] at h; exact h)
  refine lp (fun (x : Nat × Value × Value × Value) => [(2, .pointer (some ⟨gg4, 0, none⟩)), (3, x.2.1), (4, x.2.2.1), (5, x.2.2.2), (6, .int .i64 ((64 * x.1 : Nat) : Int))]) (fun (x : Nat × Value × Value × Value) w1 => x.1 ≤ K ∧ Mo w w1 [.own 38 1 x.2.1 8 (c32 (ab firstL x.1 P)), .own 38 1 x.2.2.1 64 (c32 stepsL), .own 5 1 x.2.2.2 (64 * K) (cellsOf P), .arr gg4 24 (cellsOf (List.replicate 32 0))]) (fun (x : Nat × Value × Value × Value) => K - x.1) (⟨0, vv5, vv10, vv14⟩) ⟨rfl, rfl, rfl, rfl, rfl, trivial⟩ ⟨(show 0 ≤ K from (by omega)), (show Mo w ww12 [.own 38 1 vv5 8 (c32 (ab firstL 0 P)), .own 38 1 vv10 64 (c32 stepsL), .own 5 1 vv14 (64 * K) (cellsOf P), .arr gg4 24 (cellsOf (List.replicate 32 0))] from mm16.pick [2, 1, 0, 3] (by decide) ⟨rfl, rfl, rfl, rfl, trivial⟩)⟩ ?_
  rintro ⟨q, u3, u4, u5⟩ _ ww18 ⟨hh19, mm17⟩
  replace hh19 : q ≤ K := hh19
  replace mm17 : Mo w ww18 [.own 38 1 u3 8 (c32 (ab firstL q P)), .own 38 1 u4 64 (c32 stepsL), .own 5 1 u5 (64 * K) (cellsOf P), .arr gg4 24 (cellsOf (List.replicate 32 0))] := mm17
  refine cz [(2, .pointer (some ⟨gg4, 0, none⟩)), (3, u3), (4, u4), (5, u5), (6, .int .i64 ((64 * q : Nat) : Int))] ⟨rfl, rfl, rfl, rfl, rfl, trivial⟩ (fun _ => ?_)
  by_cases hlt : q < K
  · -- round
    refine sq ?_
    refine sq ?_
    refine cz [(2, .pointer (some ⟨gg4, 0, none⟩)), (3, u3), (4, u4), (5, u5), (6, .int .i64 ((64 * q : Nat) : Int))] ⟨rfl, rfl, rfl, rfl, rfl, trivial⟩ (fun _ => ?_)
    refine rp [0, 0, 1, 0] ?_
    refine k0 (wt_none rfl _) rfl (.int .i64 ((64 * q : Nat) : Int)) (fun _ _ => exec_move (.tmp 6) (.inl rfl) _ rfl) ?_
    refine k0 (wt_none rfl _) rfl (u5) (fun _ _ => exec_move (.tmp 5) (.inl rfl) _ rfl) ?_
    refine k1 (wt_none rfl _) rfl (.int .i64 ((64 * K : Nat) : Int)) (x_len Tryd.sb.sl (.tmp 14) rfl (mm17.rc 2 rfl) rfl) ?_
    refine k0 (wt_none rfl _) rfl (.bool true) (fun _ _ => x_lss_t (.tmp 13) (.tmp 15) _ _ rfl (64 * q) (64 * K) .i64 (by omega) rfl rfl) ?_
    refine kend ?_
    refine th_n ?_
    refine cdt rfl ?_
    refine sk ?_
    refine th_n ?_
    refine sq ?_
    refine bk ?_
    refine cz [(2, .pointer (some ⟨gg4, 0, none⟩)), (3, u3), (4, u4), (5, u5), (6, .int .i64 ((64 * q : Nat) : Int)), (16, .bool true)] ⟨rfl, rfl, rfl, rfl, rfl, rfl, trivial⟩ (fun _ => ?_)
    refine rp [0, 0, 0, 0, 0, 0, 1, 2, 0] ?_
    refine k0 (wt_none rfl _) rfl (u3) (fun _ _ => exec_move (.tmp 3) (.inl rfl) _ rfl) ?_
    refine k0 (wt_none rfl _) rfl (u4) (fun _ _ => exec_move (.tmp 4) (.inl rfl) _ rfl) ?_
    refine k0 (wt_none rfl _) rfl (u5) (fun _ _ => exec_move (.tmp 5) (.inl rfl) _ rfl) ?_
    refine k0 (wt_none rfl _) rfl (.int .i64 ((64 * q : Nat) : Int)) (fun _ _ => exec_move (.tmp 6) (.inl rfl) _ rfl) ?_
    refine k0 (wt_none rfl _) rfl (.int .i64 ((64 * q : Nat) : Int)) (fun _ _ => exec_move (.tmp 6) (.inl rfl) _ rfl) ?_
    refine k0 (wt_none rfl _) rfl (.int .i64 (((64 * q) + 64 : Nat) : Int)) (fun _ _ => x_add (.tmp 23) (.const (.int .i64 64)) _ _ rfl (64 * q) 64 ((64 * q) + 64) .i64 (by exact ⟨by omega, (show _ < 9223372036854775808 by omega)⟩) rfl rfl) ?_
    refine k1 (wt_none rfl _) rfl (sV 1 u5 (64 * q) ((64 * q) + 64)) (x_sl Tryd.sb (.tmp 21) (some (.tmp 22)) (some (.tmp 24)) rfl (mm17.rc 2 rfl) (64 * q) ((64 * q) + 64) (by omega) (by omega) rfl rfl rfl) ?_
    refine kc (wt_none rfl _) rfl (x_cl3 (v0 := u3) (v1 := u4) (v2 := sV 1 u5 (64 * q) ((64 * q) + 64)) rfl rfl rfl rfl (by kernel_rfl)) (hab q hlt ▸ block_doc _ _ _ (ab firstL q P) ((P.take ((64 * q) + 64)).drop (64 * q)) _ (hA _) (hbk q hlt) (mm17.rc 0 rfl) (mm17.rc 1 rfl) (show Rc _ _ _ 64 _ from (show 64 * q + 64 - 64 * q = 64 by omega) ▸ (Rc.sl8 (mm17.rc 2 rfl) (64 * q) ((64 * q) + 64) (by omega) (by omega)))) ?_
    rintro _ ww20 ⟨vv22, rfl, mm21⟩
    have mm23 : Mo w ww20 [.own 38 1 vv22 8 (c32 (ab firstL (q + 1) P)), .own 38 1 u3 8 (c32 (ab firstL q P)), .own 38 1 u4 64 (c32 stepsL), .own 5 1 u5 (64 * K) (cellsOf P), .arr gg4 24 (cellsOf (List.replicate 32 0))] := mm17.join mm21
    refine ⟨_, rfl, trivial, ?_⟩
    refine k0 (wt_none rfl _) rfl (vv22) (fun _ _ => exec_move (.tmp 26) (.inr rfl) _ rfl) ?_
    refine kend ?_
    refine ib_n ?_
    refine th_n ?_
    refine cz [(2, .pointer (some ⟨gg4, 0, none⟩)), (3, vv22), (4, u4), (5, u5), (6, .int .i64 ((64 * q : Nat) : Int)), (16, .bool true)] ⟨rfl, rfl, rfl, rfl, rfl, rfl, trivial⟩ (fun _ => ?_)
    refine rp [0, 0, 0] ?_
    refine k0 (wt_none rfl _) rfl (.int .i64 ((64 * q : Nat) : Int)) (fun _ _ => exec_move (.tmp 6) (.inl rfl) _ rfl) ?_
    refine k0 (wt_none rfl _) rfl (.int .i64 ((64 * (q + 1) : Nat) : Int)) (fun _ _ => x_add (.tmp 17) (.const (.int .i64 64)) _ _ rfl (64 * q) 64 (64 * (q + 1)) .i64 (by exact ⟨by omega, (show _ < 9223372036854775808 by omega)⟩) rfl rfl) ?_
    refine k0 (wt_none rfl _) rfl (.int .i64 ((64 * (q + 1) : Nat) : Int)) (fun _ _ => exec_move (.tmp 18) (.inr rfl) _ rfl) ?_
    refine kend ?_
    refine th_n ?_
    exact ⟨_, (⟨q + 1, vv22, u4, u5⟩ : Nat × Value × Value × Value), rfl, ⟨rfl, rfl, rfl, rfl, rfl, trivial⟩, ⟨(show (q + 1) ≤ K from (by omega)), (show Mo w ww20 [.own 38 1 vv22 8 (c32 (ab firstL (q + 1) P)), .own 38 1 u4 64 (c32 stepsL), .own 5 1 u5 (64 * K) (cellsOf P), .arr gg4 24 (cellsOf (List.replicate 32 0))] from mm23.pick [0, 2, 3, 4] (by decide) ⟨rfl, rfl, rfl, rfl, trivial⟩)⟩, (show K - (q + 1) < K - q by omega)⟩
  · -- behind the loop
    obtain rfl : K = q := by omega
    refine sq ?_
    refine sq ?_
    refine cz [(2, .pointer (some ⟨gg4, 0, none⟩)), (3, u3), (4, u4), (5, u5), (6, .int .i64 ((64 * K : Nat) : Int))] ⟨rfl, rfl, rfl, rfl, rfl, trivial⟩ (fun _ => ?_)
    refine rp [0, 0, 1, 0] ?_
    refine k0 (wt_none rfl _) rfl (.int .i64 ((64 * K : Nat) : Int)) (fun _ _ => exec_move (.tmp 6) (.inl rfl) _ rfl) ?_
    refine k0 (wt_none rfl _) rfl (u5) (fun _ _ => exec_move (.tmp 5) (.inl rfl) _ rfl) ?_
    refine k1 (wt_none rfl _) rfl (.int .i64 ((64 * K : Nat) : Int)) (x_len Tryd.sb.sl (.tmp 14) rfl (mm17.rc 2 rfl) rfl) ?_
    refine k0 (wt_none rfl _) rfl (.bool false) (fun _ _ => x_lss_f (.tmp 13) (.tmp 15) _ _ rfl (64 * K) (64 * K) .i64 (by omega) rfl rfl) ?_
    refine kend ?_
    refine th_n ?_
    refine cdf rfl ?_
    refine ex ?_
    refine th_x ?_
    refine th_x ?_
    refine ib_x ?_
    refine th_n ?_
    refine sq ?_
    refine cz [(2, .pointer (some ⟨gg4, 0, none⟩)), (3, u3), (4, u4), (5, u5), (6, .int .i64 ((64 * K : Nat) : Int)), (16, .bool false)] ⟨rfl, rfl, rfl, rfl, rfl, rfl, trivial⟩ (fun _ => ?_)
    refine rp [0, 2, 2] ?_
    refine k0 (wt_none rfl _) rfl (.agg (cellsOf (List.replicate 32 0)).toArray) (fun _ _ => x_bld0 Tryd.ah rfl rfl) ?_
    refine k2 (wt_none rfl _) rfl (x_alc Tryd.ah rfl mm17 (cellsOf (List.replicate 32 0)) rfl) ?_
    rintro _ ww25 ⟨gg27, rfl, mm26⟩
    refine ⟨trivial, ?_⟩
    refine ks (wt_none rfl _) rfl rfl (x_sta (.tmp 7) (.tmp 27) rfl mm26 0 rfl 0 (cellsOf (List.replicate 32 0)) (cellsOf (List.replicate 32 0)) (at_size Tryd.ah (by rfl : (cellsOf (List.replicate 32 0)).length = 32)) (sta_len (by rfl : (cellsOf (List.replicate 32 0)).length = 32) (by rfl : (cellsOf (List.replicate 32 0)).length = 32)) (cellsOf_one _) (sta_all (by rfl : (cellsOf (List.replicate 32 0)).length = 32) (by rfl : (cellsOf (List.replicate 32 0)).length = 32)) rfl (.agg (cellsOf (List.replicate 32 0)).toArray) rfl rfl) ?_
    rintro ww28 mm29
    have mm30 : Mo w ww28 [.arr gg27 24 (cellsOf (List.replicate 32 0)), .own 38 1 u3 8 (c32 (ab firstL K P)), .own 38 1 u4 64 (c32 stepsL), .own 5 1 u5 (64 * K) (cellsOf P), .arr gg4 24 (cellsOf (List.replicate 32 0))] := mm29
    refine ⟨trivial, ?_⟩
    refine kend ?_
    refine th_n ?_
    refine sq ?_
    refine sq ?_
    refine cz [(2, .pointer (some ⟨gg4, 0, none⟩)), (3, u3), (4, u4), (5, u5), (6, .int .i64 ((64 * K : Nat) : Int)), (7, .pointer (some ⟨gg27, 0, none⟩)), (16, .bool false)] ⟨rfl, rfl, rfl, rfl, rfl, rfl, rfl, trivial⟩ (fun _ => ?_)
    refine rp [0] ?_
    refine k0 (wt_none rfl _) rfl (.int .i64 0) (fun _ _ => exec_move (.const (.int .i64 0)) (.inr rfl) _ rfl) ?_
    refine kend ?_
    refine th_n ?_
    refine bk ?_
    have mm31 : Mo w ww28 [.arr gg27 24 (cellsOf (outL (ab firstL K P) 0)), .own 38 1 u3 8 (c32 (ab firstL K P)), .own 38 1 u4 64 (c32 stepsL), .own 5 1 u5 (64 * K) (cellsOf P), .arr gg4 24 (cellsOf (List.replicate 32 0))] := (by have h := mm30; rw [show cellsOf (List.replicate 32 0) = cellsOf (outL (ab firstL K P) 0) from (by rfl)] at h; exact h)
    refine lp (fun (x : Nat × Value) => [(2, .pointer (some ⟨gg4, 0, none⟩)), (3, x.2), (7, .pointer (some ⟨gg27, 0, none⟩)), (8, .int .i64 ((x.1 : Nat) : Int))]) (fun (x : Nat × Value) w1 => x.1 ≤ 32 ∧ Mo w w1 [.own 38 1 x.2 8 (c32 (ab firstL K P)), .arr gg4 24 (cellsOf (List.replicate 32 0)), .arr gg27 24 (cellsOf (outL (ab firstL K P) x.1))]) (fun (x : Nat × Value) => 32 - x.1) (⟨0, u3⟩) ⟨rfl, rfl, rfl, rfl, trivial⟩ ⟨(show 0 ≤ 32 from (by omega)), (show Mo w ww28 [.own 38 1 u3 8 (c32 (ab firstL K P)), .arr gg4 24 (cellsOf (List.replicate 32 0)), .arr gg27 24 (cellsOf (outL (ab firstL K P) 0))] from mm31.pick [1, 4, 0] (by decide) ⟨rfl, rfl, rfl, trivial⟩)⟩ ?_
    rintro ⟨i, u3⟩ _ ww33 ⟨hh34, mm32⟩
    replace hh34 : i ≤ 32 := hh34
    replace mm32 : Mo w ww33 [.own 38 1 u3 8 (c32 (ab firstL K P)), .arr gg4 24 (cellsOf (List.replicate 32 0)), .arr gg27 24 (cellsOf (outL (ab firstL K P) i))] := mm32
    refine cz [(2, .pointer (some ⟨gg4, 0, none⟩)), (3, u3), (7, .pointer (some ⟨gg27, 0, none⟩)), (8, .int .i64 ((i : Nat) : Int))] ⟨rfl, rfl, rfl, rfl, trivial⟩ (fun _ => ?_)
    by_cases hlt : i < 32
    · -- round
      refine sq ?_
      refine sq ?_
      refine cz [(2, .pointer (some ⟨gg4, 0, none⟩)), (3, u3), (7, .pointer (some ⟨gg27, 0, none⟩)), (8, .int .i64 ((i : Nat) : Int))] ⟨rfl, rfl, rfl, rfl, trivial⟩ (fun _ => ?_)
      refine rp [0, 0] ?_
      refine k0 (wt_none rfl _) rfl (.int .i64 ((i : Nat) : Int)) (fun _ _ => exec_move (.tmp 8) (.inl rfl) _ rfl) ?_
      refine k0 (wt_none rfl _) rfl (.bool true) (fun _ _ => x_lss_t (.tmp 28) (.const (.int .i64 32)) _ _ rfl i 32 .i64 (by omega) rfl rfl) ?_
      refine kend ?_
      refine th_n ?_
      refine cdt rfl ?_
      refine sk ?_
      refine th_n ?_
      refine sq ?_
      refine bk ?_
      refine cz [(2, .pointer (some ⟨gg4, 0, none⟩)), (3, u3), (7, .pointer (some ⟨gg27, 0, none⟩)), (8, .int .i64 ((i : Nat) : Int)), (29, .bool true)] ⟨rfl, rfl, rfl, rfl, rfl, trivial⟩ (fun _ => ?_)
      refine rp [0, 0, 0, 0, 1, 1, 0, 0, 0, 0, 0, 0, 0, 0, 2] ?_
      refine k0 (wt_none rfl _) rfl (.int .i64 ((i : Nat) : Int)) (fun _ _ => exec_move (.tmp 8) (.inl rfl) _ rfl) ?_
      refine k0 (wt_none rfl _) rfl (u3) (fun _ _ => exec_move (.tmp 3) (.inl rfl) _ rfl) ?_
      refine k0 (wt_none rfl _) rfl (.int .i64 ((i : Nat) : Int)) (fun _ _ => exec_move (.tmp 8) (.inl rfl) _ rfl) ?_
      refine k0 (wt_none rfl _) rfl (.int .i64 ((i / 4 : Nat) : Int)) (fun _ _ => x_quo (.tmp 34) (.const (.int .i64 4)) _ _ rfl i 4 (i / 4) .i64 (by exact ⟨rfl, by omega, (show _ < 9223372036854775808 by omega)⟩) rfl rfl) ?_
      refine k1 (wt_none rfl _) rfl (eP u3 (i / 4)) (x_ep Tryd.sn (.tmp 33) (.tmp 35) rfl (mm32.rc 0 rfl) (i / 4) .i64 (i / 4) (Nat.mul_one _) (by omega) rfl _ rfl rfl) ?_
      refine k1 (wt_none rfl _) rfl (.int .u32 ((at32 (ab firstL K P) (i / 4) : Nat) : Int)) (x_ldp Tryd.u32 (.tmp 36) rfl (mm32.rc 0 rfl) (i / 4) (by omega) _ (c32_get (by rw [hA]; omega)) rfl) ?_
      refine k0 (wt_none rfl _) rfl (.int .i64 ((i : Nat) : Int)) (fun _ _ => exec_move (.tmp 8) (.inl rfl) _ rfl) ?_
      refine k0 (wt_none rfl _) rfl (.int .i64 ((i % 4 : Nat) : Int)) (fun _ _ => x_rem (.tmp 38) (.const (.int .i64 4)) _ _ rfl i 4 (i % 4) .i64 (by exact ⟨rfl, by omega⟩) rfl rfl) ?_
      refine k0 (wt_none rfl _) rfl (.int .i64 ((8 * (i % 4) : Nat) : Int)) (fun _ _ => x_mul (.const (.int .i64 8)) (.tmp 39) _ _ rfl 8 (i % 4) (8 * (i % 4)) .i64 (by exact ⟨by omega, (show _ < 9223372036854775808 by omega)⟩) rfl rfl) ?_
      refine k0 (wt_none rfl _) rfl (.int .i64 ((24 - (8 * (i % 4)) : Nat) : Int)) (fun _ _ => x_sub (.const (.int .i64 24)) (.tmp 40) _ _ rfl 24 (8 * (i % 4)) (24 - (8 * (i % 4))) .i64 (by exact ⟨by omega, (show _ < 9223372036854775808 by omega)⟩) rfl rfl) ?_
      refine k0 (wt_none rfl _) rfl (.int .u64 ((24 - (8 * (i % 4)) : Nat) : Int)) (fun _ _ => exec_conv Tryd.i64 Tryd.uint (.tmp 41) rfl ((24 - (8 * (i % 4)) : Nat) : Int) ((24 - (8 * (i % 4)) : Nat) : Int) (wrapN .u64 (24 - (8 * (i % 4))) (show _ < 18446744073709551616 by omega)) rfl) ?_
      refine k0 (wt_none rfl _) rfl (.int .u32 ((rS (24 - (8 * (i % 4))) (at32 (ab firstL K P) (i / 4)) : Nat) : Int)) (fun _ _ => exec_rS (.tmp 37) (.tmp 42) _ _ rfl (at32 (ab firstL K P) (i / 4)) (24 - (8 * (i % 4))) .u64 _ rfl (by omega) rfl rfl) ?_
      refine k0 (wt_none rfl _) rfl (.int .u8 (((UInt8.ofNat (rS (24 - (8 * (i % 4))) (at32 (ab firstL K P) (i / 4)))).toNat : Nat) : Int)) (fun _ _ => exec_conv Tryd.u32 Tryd.u8 (.tmp 43) rfl ((rS (24 - (8 * (i % 4))) (at32 (ab firstL K P) (i / 4)) : Nat) : Int) (((UInt8.ofNat (rS (24 - (8 * (i % 4))) (at32 (ab firstL K P) (i / 4)))).toNat : Nat) : Int) (wrapU8 (rS (24 - (8 * (i % 4))) (at32 (ab firstL K P) (i / 4)))) rfl) ?_
      refine k0 (wt_none rfl _) rfl (.pointer (some ⟨gg27, i, none⟩)) (fun _ _ => exec_indexAt_arr Tryd.ah (.tmp 7) (.tmp 32) rfl gg27 i .i64 _ rfl (by omega) rfl rfl) ?_
      refine ks (wt_none rfl _) rfl rfl (x_sta (.tmp 45) (.tmp 44) rfl mm32 2 rfl i [.int .u8 (((UInt8.ofNat (rS (24 - (8 * (i % 4))) (at32 (ab firstL K P) (i / 4)))).toNat : Nat) : Int)] (cellsOf (outL (ab firstL K P) (i + 1))) Tryd.one8 (show _ + 1 ≤ _ by rw [cellsOf_length]; rw [outL_length]; omega) (fun _ h => by rw [List.mem_singleton.1 h]; rfl) (by rw [cells_set8 (by rw [outL_length]; omega)]; rfl) rfl (.int .u8 (((UInt8.ofNat (rS (24 - (8 * (i % 4))) (at32 (ab firstL K P) (i / 4)))).toNat : Nat) : Int)) rfl rfl) ?_
      rintro ww35 mm36
      have mm37 : Mo w ww35 [.own 38 1 u3 8 (c32 (ab firstL K P)), .arr gg4 24 (cellsOf (List.replicate 32 0)), .arr gg27 24 (cellsOf (outL (ab firstL K P) (i + 1)))] := mm36
      refine ⟨trivial, ?_⟩
      refine kend ?_
      refine ib_n ?_
      refine th_n ?_
      refine cz [(2, .pointer (some ⟨gg4, 0, none⟩)), (3, u3), (7, .pointer (some ⟨gg27, 0, none⟩)), (8, .int .i64 ((i : Nat) : Int)), (29, .bool true)] ⟨rfl, rfl, rfl, rfl, rfl, trivial⟩ (fun _ => ?_)
      refine rp [0, 0, 0] ?_
      refine k0 (wt_none rfl _) rfl (.int .i64 ((i : Nat) : Int)) (fun _ _ => exec_move (.tmp 8) (.inl rfl) _ rfl) ?_
      refine k0 (wt_none rfl _) rfl (.int .i64 ((i + 1 : Nat) : Int)) (fun _ _ => x_add (.tmp 30) (.const (.int .i64 1)) _ _ rfl i 1 (i + 1) .i64 (by exact ⟨by omega, (show _ < 9223372036854775808 by omega)⟩) rfl rfl) ?_
      refine k0 (wt_none rfl _) rfl (.int .i64 ((i + 1 : Nat) : Int)) (fun _ _ => exec_move (.tmp 31) (.inr rfl) _ rfl) ?_
      refine kend ?_
      refine th_n ?_
      exact ⟨_, (⟨i + 1, u3⟩ : Nat × Value), rfl, ⟨rfl, rfl, rfl, rfl, trivial⟩, ⟨(show (i + 1) ≤ 32 from (by omega)), (show Mo w ww35 [.own 38 1 u3 8 (c32 (ab firstL K P)), .arr gg4 24 (cellsOf (List.replicate 32 0)), .arr gg27 24 (cellsOf (outL (ab firstL K P) (i + 1)))] from mm37)⟩, (show 32 - (i + 1) < 32 - i by omega)⟩
    · -- behind the loop
      obtain rfl : i = 32 := by omega
      refine sq ?_
      refine sq ?_
      refine cz [(2, .pointer (some ⟨gg4, 0, none⟩)), (3, u3), (7, .pointer (some ⟨gg27, 0, none⟩)), (8, .int .i64 32)] ⟨rfl, rfl, rfl, rfl, trivial⟩ (fun _ => ?_)
      refine rp [0, 0] ?_
      refine k0 (wt_none rfl _) rfl (.int .i64 32) (fun _ _ => exec_move (.tmp 8) (.inl rfl) _ rfl) ?_
      refine k0 (wt_none rfl _) rfl (.bool false) (fun _ _ => x_lss_f (.tmp 28) (.const (.int .i64 32)) _ _ rfl 32 32 .i64 (by omega) rfl rfl) ?_
      refine kend ?_
      refine th_n ?_
      refine cdf rfl ?_
      refine ex ?_
      refine th_x ?_
      refine th_x ?_
      refine ib_x ?_
      refine th_n ?_
      refine sq ?_
      refine cz [(2, .pointer (some ⟨gg4, 0, none⟩)), (3, u3), (7, .pointer (some ⟨gg27, 0, none⟩)), (8, .int .i64 32), (29, .bool false)] ⟨rfl, rfl, rfl, rfl, rfl, trivial⟩ (fun _ => ?_)
      refine rp [1, 2] ?_
      refine k1 (wt_none rfl _) rfl (.agg (cellsOf (outL (ab firstL K P) 32)).toArray) (exec_load_arr Tryd.ah (.tmp 7) rfl gg27 _ (outL_len _ _) rfl (mm32.arr 2 rfl)) ?_
      refine ks (wt_none rfl _) rfl rfl (x_sta (.tmp 2) (.tmp 46) rfl mm32 1 rfl 0 (cellsOf (outL (ab firstL K P) 32)) (cellsOf (outL (ab firstL K P) 32)) (at_size Tryd.ah (outL_len _ _)) (sta_len (by rfl : (cellsOf (List.replicate 32 0)).length = 32) (outL_len _ _)) (cellsOf_one _) (sta_all (by rfl : (cellsOf (List.replicate 32 0)).length = 32) (outL_len _ _)) rfl (.agg (cellsOf (outL (ab firstL K P) 32)).toArray) rfl rfl) ?_
      rintro ww38 mm39
      have mm40 : Mo w ww38 [.own 38 1 u3 8 (c32 (ab firstL K P)), .arr gg4 24 (cellsOf (outL (ab firstL K P) 32)), .arr gg27 24 (cellsOf (outL (ab firstL K P) 32))] := mm39
      refine ⟨trivial, ?_⟩
      refine kend ?_
      refine th_n ?_
      refine re ?_
      refine rta Tryd.ah rfl (outL_len _ _) (mm40.arr 1 rfl) rfl ?_
      exact ⟨by rw [hH], mm40.below⟩


set_option maxHeartbeats 1000000 in
theorem double_doc (v : Value) (b : List UInt8) (nb : Nat) (w : World) (hn : b.length = nb) (hv : Rc w.heap.size w v nb (cellsOf b)) (hN : b.length ≤ 900000) :
    Calls Tryd.prog 14 #[v] w fun e w' => e = .returned (.agg (cellsOf (hsh (hsh b))).toArray) ∧ Below w.heap.size w w' := by
  have hl := hsh_length
  have m0 := Mo.start w
  refine enter [v] 8 Tryd.func14 rfl Tryd.ntmps14 (Nat.le_of_ble_eq_true rfl) ?_

  refine sq ?_
  refine cz [(0, v)] ⟨rfl, trivial⟩ (fun _ => ?_)
  refine rp [2] ?_
  refine k2 (wt_none rfl _) rfl (x_alc Tryd.ah rfl m0 (cellsOf (List.replicate 32 0)) rfl) ?_
  rintro _ ww2 ⟨gg4, rfl, mm3⟩
  refine ⟨trivial, ?_⟩
  refine kend ?_
  refine th_n ?_
  refine sq ?_
  refine cz [(0, v), (2, .pointer (some ⟨gg4, 0, none⟩))] ⟨rfl, rfl, trivial⟩ (fun _ => ?_)
  refine rp [0, 2, 2, 2] ?_
  refine k0 (wt_none rfl _) rfl (v) (fun _ _ => exec_move (.tmp 0) (.inl rfl) _ rfl) ?_
  refine kc (wt_none rfl _) rfl (x_cl1 (v0 := v) rfl rfl (by kernel_rfl)) (sum_doc v b nb _ (by rw [hn]) (Rc.at hv mm3) hN) ?_
  rintro _ ww5 ⟨rfl, mm6⟩
  have mm7 : Mo w ww5 [.arr gg4 24 (cellsOf (List.replicate 32 0))] := mm3.gr mm6
  refine ⟨_, rfl, trivial, ?_⟩
  refine k2 (wt_none rfl _) rfl (x_alc Tryd.ah rfl mm7 (cellsOf (List.replicate 32 0)) rfl) ?_
  rintro _ ww9 ⟨gg11, rfl, mm10⟩
  refine ⟨trivial, ?_⟩
  refine ks (wt_none rfl _) rfl rfl (x_sta (.tmp 3) (.tmp 5) rfl mm10 0 rfl 0 (cellsOf (hsh b)) (cellsOf (hsh b)) (at_size Tryd.ah (hsh_len _)) (sta_len (by rfl : (cellsOf (List.replicate 32 0)).length = 32) (hsh_len _)) (cellsOf_one _) (sta_all (by rfl : (cellsOf (List.replicate 32 0)).length = 32) (hsh_len _)) rfl (.agg (cellsOf (hsh b)).toArray) rfl rfl) ?_
  rintro ww12 mm13
  have mm14 : Mo w ww12 [.arr gg11 24 (cellsOf (hsh b)), .arr gg4 24 (cellsOf (List.replicate 32 0))] := mm13
  refine ⟨trivial, ?_⟩
  refine kend ?_
  refine th_n ?_
  refine sq ?_
  refine cz [(0, v), (2, .pointer (some ⟨gg4, 0, none⟩)), (3, .pointer (some ⟨gg11, 0, none⟩))] ⟨rfl, rfl, rfl, trivial⟩ (fun _ => ?_)
  refine rp [0, 2, 2] ?_
  refine k0 (wt_none rfl _) rfl (.slice (some ⟨gg11, 0, none⟩) 32 32) (fun _ _ => x_sla Tryd.ah (.tmp 3) rfl gg11 rfl) ?_
  refine kc (wt_none rfl _) rfl (x_cl1 (v0 := .slice (some ⟨gg11, 0, none⟩) 32 32) rfl rfl (by kernel_rfl)) (sum_doc (.slice (some ⟨gg11, 0, none⟩) 32 32) (hsh b) 32 _ (by rw [hl]) (mm14.arc 0 rfl 32) (by rw [hl]; decide)) ?_
  rintro _ ww15 ⟨rfl, mm16⟩
  have mm17 : Mo w ww15 [.arr gg11 24 (cellsOf (hsh b)), .arr gg4 24 (cellsOf (List.replicate 32 0))] := mm14.gr mm16
  refine ⟨_, rfl, trivial, ?_⟩
  refine ks (wt_none rfl _) rfl rfl (x_sta (.tmp 2) (.tmp 7) rfl mm17 1 rfl 0 (cellsOf (hsh (hsh b))) (cellsOf (hsh (hsh b))) (at_size Tryd.ah (hsh_len _)) (sta_len (by rfl : (cellsOf (List.replicate 32 0)).length = 32) (hsh_len _)) (cellsOf_one _) (sta_all (by rfl : (cellsOf (List.replicate 32 0)).length = 32) (hsh_len _)) rfl (.agg (cellsOf (hsh (hsh b))).toArray) rfl rfl) ?_
  rintro ww18 mm19
  have mm20 : Mo w ww18 [.arr gg11 24 (cellsOf (hsh b)), .arr gg4 24 (cellsOf (hsh (hsh b)))] := mm19
  refine ⟨trivial, ?_⟩
  refine kend ?_
  refine th_n ?_
  refine re ?_
  refine rta Tryd.ah rfl (hsh_len _) (mm20.arr 1 rfl) rfl ?_
  exact ⟨rfl, mm20.below⟩


set_option maxHeartbeats 1000000 in
theorem tagged_doc (tag : ByteArray) (v : Value) (b : List UInt8) (nb : Nat) (w : World) (hn : b.length = nb) (hv : Rc w.heap.size w v nb (cellsOf b)) (hN : b.length ≤ 800000) (hT' : tag.size ≤ 800000) :
    Calls Tryd.prog 16 #[.string tag, v] w fun e w' => e = .returned (.agg (cellsOf (hsh (hsh tag.data.toList ++ hsh tag.data.toList ++ b))).toArray) ∧ Below w.heap.size w w' := by
  have hl := hsh_length
  have hT : tag.data.toList.length ≤ 900000 := by simpa using Nat.le_trans hT' (by decide)
  have hA : (hsh tag.data.toList ++ hsh tag.data.toList ++ b).length ≤ 900000 := by rw [List.length_append, List.length_append, hl]; omega
  have m0 := Mo.start w
  refine enter [.string tag, v] 21 Tryd.func16 rfl Tryd.ntmps16 (Nat.le_of_ble_eq_true rfl) ?_

  refine sq ?_
  refine cz [(0, .string tag), (1, v)] ⟨rfl, rfl, trivial⟩ (fun _ => ?_)
  refine rp [2] ?_
  refine k2 (wt_none rfl _) rfl (x_alc Tryd.ah rfl m0 (cellsOf (List.replicate 32 0)) rfl) ?_
  rintro _ ww2 ⟨gg4, rfl, mm3⟩
  refine ⟨trivial, ?_⟩
  refine kend ?_
  refine th_n ?_
  refine sq ?_
  refine cz [(0, .string tag), (1, v), (4, .pointer (some ⟨gg4, 0, none⟩))] ⟨rfl, rfl, rfl, trivial⟩ (fun _ => ?_)
  refine rp [0, 2, 2, 2, 2] ?_
  refine k0 (wt_none rfl _) rfl (.string tag) (fun _ _ => exec_move (.tmp 0) (.inl rfl) _ rfl) ?_
  refine k2 (wt_none rfl _) rfl (x_cs Tryd.str Tryd.sb.sl Tryd.u8 (.tmp 7) rfl mm3 tag rfl) ?_
  rintro vv5 ww6 mm7
  refine ⟨trivial, ?_⟩
  refine kc (wt_none rfl _) rfl (x_cl1 (v0 := vv5) rfl rfl (by kernel_rfl)) (sum_doc vv5 tag.data.toList tag.size _ (rfl) (mm7.rcr 0 rfl) hT) ?_
  rintro _ ww8 ⟨rfl, mm9⟩
  have mm10 : Mo w ww8 [.rdo vv5 tag.size (cellsOf tag.data.toList), .arr gg4 24 (cellsOf (List.replicate 32 0))] := mm7.gr mm9
  refine ⟨_, rfl, trivial, ?_⟩
  refine k2 (wt_none rfl _) rfl (x_alc Tryd.ah rfl mm10 (cellsOf (List.replicate 32 0)) rfl) ?_
  rintro _ ww12 ⟨gg14, rfl, mm13⟩
  refine ⟨trivial, ?_⟩
  refine ks (wt_none rfl _) rfl rfl (x_sta (.tmp 5) (.tmp 9) rfl mm13 0 rfl 0 (cellsOf (hsh tag.data.toList)) (cellsOf (hsh tag.data.toList)) (at_size Tryd.ah (hsh_len _)) (sta_len (by rfl : (cellsOf (List.replicate 32 0)).length = 32) (hsh_len _)) (cellsOf_one _) (sta_all (by rfl : (cellsOf (List.replicate 32 0)).length = 32) (hsh_len _)) rfl (.agg (cellsOf (hsh tag.data.toList)).toArray) rfl rfl) ?_
  rintro ww15 mm16
  have mm17 : Mo w ww15 [.arr gg14 24 (cellsOf (hsh tag.data.toList)), .rdo vv5 tag.size (cellsOf tag.data.toList), .arr gg4 24 (cellsOf (List.replicate 32 0))] := mm16
  refine ⟨trivial, ?_⟩
  refine kend ?_
  refine th_n ?_
  refine sq ?_
  refine cz [(0, .string tag), (1, v), (4, .pointer (some ⟨gg4, 0, none⟩)), (5, .pointer (some ⟨gg14, 0, none⟩))] ⟨rfl, rfl, rfl, rfl, trivial⟩ (fun _ => ?_)
  refine rp [2, 0, 2, 0] ?_
  refine k2 (wt_none rfl _) rfl (x_bld Tryd.sb 0 _ rfl mm17 [] [] rfl (by decide) (fun _ h => absurd h List.not_mem_nil) rfl rfl) ?_
  rintro vv18 ww19 mm20
  refine ⟨trivial, ?_⟩
  refine k0 (wt_none rfl _) rfl (.slice (some ⟨gg14, 0, none⟩) 32 32) (fun _ _ => x_sla Tryd.ah (.tmp 5) rfl gg14 rfl) ?_
  refine k2 (wt_none rfl _) rfl (x_app Tryd.sb (.tmp 10) (.tmp 11) rfl mm20 0 rfl rfl (mm20.arc 1 rfl 32) (by simp [cellsOf_length, hl]) (cellsOf_one _) (by omega) rfl) ?_
  rintro vv21 ww22 mm23
  have mm24 : Mo w ww22 [.own 5 1 vv21 32 (cellsOf (hsh tag.data.toList)), .arr gg14 24 (cellsOf (hsh tag.data.toList)), .rdo vv5 tag.size (cellsOf tag.data.toList), .arr gg4 24 (cellsOf (List.replicate 32 0))] := (by have h := mm23; rw [List.nil_append, Nat.zero_add] at h; exact h)
  refine ⟨trivial, ?_⟩
  refine k0 (wt_none rfl _) rfl (vv21) (fun _ _ => exec_move (.tmp 12) (.inr rfl) _ rfl) ?_
  refine kend ?_
  refine th_n ?_
  refine sq ?_
  refine cz [(0, .string tag), (1, v), (4, .pointer (some ⟨gg4, 0, none⟩)), (5, .pointer (some ⟨gg14, 0, none⟩)), (6, vv21)] ⟨rfl, rfl, rfl, rfl, rfl, trivial⟩ (fun _ => ?_)
  refine rp [0, 0, 2, 0] ?_
  refine k0 (wt_none rfl _) rfl (vv21) (fun _ _ => exec_move (.tmp 6) (.inl rfl) _ rfl) ?_
  refine k0 (wt_none rfl _) rfl (.slice (some ⟨gg14, 0, none⟩) 32 32) (fun _ _ => x_sla Tryd.ah (.tmp 5) rfl gg14 rfl) ?_
  refine k2 (wt_none rfl _) rfl (x_app Tryd.sb (.tmp 13) (.tmp 14) rfl mm24 0 rfl rfl (mm24.arc 1 rfl 32) (by simp [cellsOf_length, hl]) (cellsOf_one _) (by omega) rfl) ?_
  rintro vv25 ww26 mm27
  have mm28 : Mo w ww26 [.own 5 1 vv25 (32 + 32) (cellsOf ((hsh tag.data.toList) ++ (hsh tag.data.toList))), .arr gg14 24 (cellsOf (hsh tag.data.toList)), .rdo vv5 tag.size (cellsOf tag.data.toList), .arr gg4 24 (cellsOf (List.replicate 32 0))] := (by have h := mm27; rw [← cellsOf_append] at h; exact h)
  refine ⟨trivial, ?_⟩
  refine k0 (wt_none rfl _) rfl (vv25) (fun _ _ => exec_move (.tmp 15) (.inr rfl) _ rfl) ?_
  refine kend ?_
  refine th_n ?_
  refine sq ?_
  refine cz [(0, .string tag), (1, v), (4, .pointer (some ⟨gg4, 0, none⟩)), (5, .pointer (some ⟨gg14, 0, none⟩)), (6, vv25)] ⟨rfl, rfl, rfl, rfl, rfl, trivial⟩ (fun _ => ?_)
  refine rp [0, 0, 2, 0] ?_
  refine k0 (wt_none rfl _) rfl (vv25) (fun _ _ => exec_move (.tmp 6) (.inl rfl) _ rfl) ?_
  refine k0 (wt_none rfl _) rfl (v) (fun _ _ => exec_move (.tmp 1) (.inl rfl) _ rfl) ?_
  refine k2 (wt_none rfl _) rfl (x_app Tryd.sb (.tmp 16) (.tmp 17) rfl mm28 0 rfl rfl (Rc.at hv mm28) (by simp [cellsOf_length, hn]) (cellsOf_one _) (by omega) rfl) ?_
  rintro vv29 ww30 mm31
  have mm32 : Mo w ww30 [.own 5 1 vv29 ((32 + 32) + nb) (cellsOf (((hsh tag.data.toList) ++ (hsh tag.data.toList)) ++ b)), .arr gg14 24 (cellsOf (hsh tag.data.toList)), .rdo vv5 tag.size (cellsOf tag.data.toList), .arr gg4 24 (cellsOf (List.replicate 32 0))] := (by have h := mm31; rw [← cellsOf_append] at h; exact h)
  refine ⟨trivial, ?_⟩
  refine k0 (wt_none rfl _) rfl (vv29) (fun _ _ => exec_move (.tmp 18) (.inr rfl) _ rfl) ?_
  refine kend ?_
  refine th_n ?_
  refine sq ?_
  refine cz [(0, .string tag), (1, v), (4, .pointer (some ⟨gg4, 0, none⟩)), (5, .pointer (some ⟨gg14, 0, none⟩)), (6, vv29)] ⟨rfl, rfl, rfl, rfl, rfl, trivial⟩ (fun _ => ?_)
  refine rp [0, 2, 2] ?_
  refine k0 (wt_none rfl _) rfl (vv29) (fun _ _ => exec_move (.tmp 6) (.inl rfl) _ rfl) ?_
  refine kc (wt_none rfl _) rfl (x_cl1 (v0 := vv29) rfl rfl (by kernel_rfl)) (sum_doc vv29 (((hsh tag.data.toList) ++ (hsh tag.data.toList)) ++ b) ((32 + 32) + nb) _ (by rw [List.length_append, List.length_append, hl, hn]) (mm32.rc 0 rfl) hA) ?_
  rintro _ ww33 ⟨rfl, mm34⟩
  have mm35 : Mo w ww33 [.own 5 1 vv29 ((32 + 32) + nb) (cellsOf (((hsh tag.data.toList) ++ (hsh tag.data.toList)) ++ b)), .arr gg14 24 (cellsOf (hsh tag.data.toList)), .rdo vv5 tag.size (cellsOf tag.data.toList), .arr gg4 24 (cellsOf (List.replicate 32 0))] := mm32.gr mm34
  refine ⟨_, rfl, trivial, ?_⟩
  refine ks (wt_none rfl _) rfl rfl (x_sta (.tmp 4) (.tmp 20) rfl mm35 3 rfl 0 (cellsOf (hsh (((hsh tag.data.toList) ++ (hsh tag.data.toList)) ++ b))) (cellsOf (hsh (((hsh tag.data.toList) ++ (hsh tag.data.toList)) ++ b))) (at_size Tryd.ah (hsh_len _)) (sta_len (by rfl : (cellsOf (List.replicate 32 0)).length = 32) (hsh_len _)) (cellsOf_one _) (sta_all (by rfl : (cellsOf (List.replicate 32 0)).length = 32) (hsh_len _)) rfl (.agg (cellsOf (hsh (((hsh tag.data.toList) ++ (hsh tag.data.toList)) ++ b))).toArray) rfl rfl) ?_
  rintro ww36 mm37
  have mm38 : Mo w ww36 [.own 5 1 vv29 ((32 + 32) + nb) (cellsOf (((hsh tag.data.toList) ++ (hsh tag.data.toList)) ++ b)), .arr gg14 24 (cellsOf (hsh tag.data.toList)), .rdo vv5 tag.size (cellsOf tag.data.toList), .arr gg4 24 (cellsOf (hsh (((hsh tag.data.toList) ++ (hsh tag.data.toList)) ++ b)))] := mm37
  refine ⟨trivial, ?_⟩
  refine kend ?_
  refine th_n ?_
  refine re ?_
  refine rta Tryd.ah rfl (hsh_len _) (mm38.arr 3 rfl) rfl ?_
  exact ⟨rfl, mm38.below⟩

end Go.Proofs.YtkgenageeiaacaaDoor
