/-
  Contracts of the document's steps and block.
-/
import Derived.Test.YtkgenageeiaacaaDoorD1
namespace Go.Proofs.YtkgenageeiaacaaDoor
open Go.RowKit
theorem adds_comm (n v : List Nat) (hn : n.length = 8) (hv : v.length = 8) : adds v n 8 = adds n v 8 := by
  match n, hn, v, hv with
  | [_, _, _, _, _, _, _, _], _, [_, _, _, _, _, _, _, _], _ => simp [adds, at32, ad_comm]

set_option maxRecDepth 20000 in
theorem steps_doc (w : World) :
    Calls Tryd.prog 22 #[] w fun e w' => ∃ v', e = .returned v' ∧ Mo w w' [.own 38 1 v' 64 (c32 stepsL)] := by
  have m0 := Mo.start w
  refine enter [] 2 Tryd.func22 rfl Tryd.ntmps22 (Nat.le_of_ble_eq_true rfl) ?_
  refine sq ?_
  refine cz [] trivial (fun _ => ?_)
  refine rp [0] ?_
  refine k0 (wt_none rfl _) rfl (.slice none 0 0) (fun _ _ => exec_move (.const (.slice none 0 0)) (.inr rfl) _ rfl) ?_
  refine kend ?_
  refine th_n ?_
  refine sq ?_
  refine cz [(0, .slice none 0 0)] ⟨rfl, trivial⟩ (fun _ => ?_)
  refine rp [2, 0] ?_
  refine k2 (wt_none rfl _) rfl (x_bld Tryd.sn 64 _ rfl m0 (c32 stepsL) (c32 stepsL) rfl (by decide) (one_size (cells_oc32 _)) (one_flat (cells_oc32 _)) rfl) ?_
  rintro vv1 ww2 mm3
  refine ⟨trivial, ?_⟩
  refine k0 (wt_none rfl _) rfl (vv1) (fun _ _ => exec_move (.tmp 1) (.inr rfl) _ rfl) ?_
  refine kend ?_
  refine th_n ?_
  refine re ?_
  refine rt1 rfl ?_
  exact ⟨vv1, rfl, mm3⟩


set_option maxHeartbeats 2000000 in
theorem block_doc (v0 v1 v2 : Value) (n : List Nat) (b : List UInt8) (w : World) (hn : n.length = 8) (hb : b.length = 64) (h0 : Rc w.heap.size w v0 8 (c32 n)) (h1 : Rc w.heap.size w v1 64 (c32 stepsL)) (h2 : Rc w.heap.size w v2 64 (cellsOf b)) :
    Calls Tryd.prog 24 #[v0, v1, v2] w fun e w' => ∃ v', e = .returned v' ∧ Mo w w' [.own 38 1 v' 8 (c32 (tk n b))] := by
  have hV : ∀ t, (rnT stepsL (ws b 64) n t).length = 8 := rnT_length _ _ _ hn
  have m0 := Mo.start w
  refine enter [v0, v1, v2] 227 Tryd.func24 rfl Tryd.ntmps24 (Nat.le_of_ble_eq_true rfl) ?_

  refine sq ?_
  refine cz [(0, v0), (1, v1), (2, v2)] ⟨rfl, rfl, rfl, trivial⟩ (fun _ => ?_)
  refine rp [0] ?_
  refine k0 (wt_none rfl _) rfl (.slice none 0 0) (fun _ _ => exec_move (.const (.slice none 0 0)) (.inr rfl) _ rfl) ?_
  refine kend ?_
  refine th_n ?_
  refine sq ?_
  refine cz [(0, v0), (1, v1), (2, v2), (6, .slice none 0 0)] ⟨rfl, rfl, rfl, rfl, trivial⟩ (fun _ => ?_)
  refine rp [2, 0] ?_
  refine k2 (wt_none rfl _) rfl (x_bld Tryd.sn 0 _ rfl m0 [] [] rfl (by decide) (fun _ h => absurd h List.not_mem_nil) rfl rfl) ?_
  rintro vv1 ww2 mm3
  refine ⟨trivial, ?_⟩
  refine k0 (wt_none rfl _) rfl (vv1) (fun _ _ => exec_move (.tmp 21) (.inr rfl) _ rfl) ?_
  refine kend ?_
  refine th_n ?_
  refine sq ?_
  refine sq ?_
  refine cz [(0, v0), (1, v1), (2, v2), (6, .slice none 0 0), (7, vv1)] ⟨rfl, rfl, rfl, rfl, rfl, trivial⟩ (fun _ => ?_)
  refine rp [0] ?_
  refine k0 (wt_none rfl _) rfl (.int .i64 0) (fun _ _ => exec_move (.const (.int .i64 0)) (.inr rfl) _ rfl) ?_
  refine kend ?_
  refine th_n ?_
  refine bk ?_
  have mm4 : Mo w ww2 [.own 38 1 vv1 0 (c32 (ws b 0))] := (by have h := mm3; rw [show [] = c32 (ws b 0) from (by rfl)] at h; exact h)
  refine lp (fun (x : Nat × Value) => [(0, v0), (1, v1), (2, v2), (7, x.2), (8, .int .i64 ((x.1 : Nat) : Int))]) (fun (x : Nat × Value) w1 => x.1 ≤ 64 ∧ Mo w w1 [.own 38 1 x.2 x.1 (c32 (ws b x.1))]) (fun (x : Nat × Value) => 64 - x.1) (⟨0, vv1⟩) ⟨rfl, rfl, rfl, rfl, rfl, trivial⟩ ⟨(show 0 ≤ 64 from (by omega)), (show Mo w ww2 [.own 38 1 vv1 0 (c32 (ws b 0))] from mm4)⟩ ?_
  rintro ⟨t, v7⟩ _ ww6 ⟨hh7, mm5⟩
  replace hh7 : t ≤ 64 := hh7
  replace mm5 : Mo w ww6 [.own 38 1 v7 t (c32 (ws b t))] := mm5
  refine cz [(0, v0), (1, v1), (2, v2), (7, v7), (8, .int .i64 ((t : Nat) : Int))] ⟨rfl, rfl, rfl, rfl, rfl, trivial⟩ (fun _ => ?_)
  by_cases hlt : t < 64
  · -- round
    refine sq ?_
    refine sq ?_
    refine cz [(0, v0), (1, v1), (2, v2), (7, v7), (8, .int .i64 ((t : Nat) : Int))] ⟨rfl, rfl, rfl, rfl, rfl, trivial⟩ (fun _ => ?_)
    refine rp [0, 0] ?_
    refine k0 (wt_none rfl _) rfl (.int .i64 ((t : Nat) : Int)) (fun _ _ => exec_move (.tmp 8) (.inl rfl) _ rfl) ?_
    refine k0 (wt_none rfl _) rfl (.bool true) (fun _ _ => x_lss_t (.tmp 22) (.const (.int .i64 64)) _ _ rfl t 64 .i64 (by omega) rfl rfl) ?_
    refine kend ?_
    refine th_n ?_
    refine cdt rfl ?_
    refine sk ?_
    refine th_n ?_
    refine sq ?_
    refine bk ?_
    refine sq ?_
    refine sq ?_
    by_cases h16 : t < 16
    · skip
      refine cz [(0, v0), (1, v1), (2, v2), (7, v7), (8, .int .i64 ((t : Nat) : Int)), (23, .bool true)] ⟨rfl, rfl, rfl, rfl, rfl, rfl, trivial⟩ (fun _ => ?_)
      refine rp [0, 0] ?_
      refine k0 (wt_none rfl _) rfl (.int .i64 ((t : Nat) : Int)) (fun _ _ => exec_move (.tmp 8) (.inl rfl) _ rfl) ?_
      refine k0 (wt_none rfl _) rfl (.bool true) (fun _ _ => x_lss_t (.tmp 26) (.const (.int .i64 16)) _ _ rfl t 16 .i64 (by omega) rfl rfl) ?_
      refine kend ?_
      refine th_n ?_
      refine cdt rfl ?_
      refine sq ?_
      refine cz [(0, v0), (1, v1), (2, v2), (7, v7), (8, .int .i64 ((t : Nat) : Int)), (23, .bool true), (27, .bool true)] ⟨rfl, rfl, rfl, rfl, rfl, rfl, rfl, trivial⟩ (fun _ => ?_)
      have mm9 := mm5.drew
      refine rq (fun w1 => Mo w w1 []) [0, 0, 0, 0, 0, 0, 0, 0, 0, 0, 0, 0, 0, 0, 0, 0, 0, 0, 0, 0, 0, 0, 0, 0, 0, 0, 0, 0, 0, 0, 0, 0, 0, 0, 2, 2, 0] (by kernel_rfl) (by kernel_rfl) (by kernel_rfl) (mm9.sub (List.Sublist.cons _ List.Sublist.slnil)) ?_
      refine k0 (wt_none rfl _) rfl (v7) (fun _ _ => exec_move (.tmp 7) (.inl rfl) _ rfl) ?_
      refine k0 (wt_none rfl _) rfl (v2) (fun _ _ => exec_move (.tmp 2) (.inl rfl) _ rfl) ?_
      refine k0 (wt_none rfl _) rfl (.int .i64 ((t : Nat) : Int)) (fun _ _ => exec_move (.tmp 8) (.inl rfl) _ rfl) ?_
      refine k0 (wt_none rfl _) rfl (.int .i64 ((4 * t : Nat) : Int)) (fun _ _ => x_mul (.const (.int .i64 4)) (.tmp 30) _ _ rfl 4 t (4 * t) .i64 (by exact ⟨by omega, (show _ < 9223372036854775808 by omega)⟩) rfl rfl) ?_
      refine k0 (wt_none rfl _) rfl (eP v2 (4 * t)) (fun _ hC => x_ep Tryd.sb (.tmp 29) (.tmp 31) rfl (Rc.at h2 hC) (4 * t) .i64 (4 * t) (Nat.mul_one _) (by omega) rfl _ rfl rfl) ?_
      refine k0 (wt_none rfl _) rfl (.int .u8 (((at8 b (4 * t)).toNat : Nat) : Int)) (fun _ hC => x_ldp Tryd.u8 (.tmp 32) rfl (Rc.at h2 hC) (4 * t) (by omega) _ (c8_get (by rw [hb]; omega)) rfl) ?_
      refine k0 (wt_none rfl _) rfl (.int .u32 (((at8 b (4 * t)).toNat : Nat) : Int)) (fun _ _ => exec_conv Tryd.u8 Tryd.u32 (.tmp 33) rfl (((at8 b (4 * t)).toNat : Nat) : Int) (((at8 b (4 * t)).toNat : Nat) : Int) (wrapN .u32 ((at8 b (4 * t)).toNat) (show _ < 4294967296 by have := UInt8.toNat_lt (at8 b (4 * t)); omega)) rfl) ?_
      refine k0 (wt_none rfl _) rfl (.int .u32 ((lS 24 ((at8 b (4 * t)).toNat) : Nat) : Int)) (fun _ _ => exec_lS (.tmp 34) (.const (.int .u64 24)) _ _ rfl ((at8 b (4 * t)).toNat) 24 .u64 _ rfl (by omega) rfl rfl) ?_
      refine k0 (wt_none rfl _) rfl (v2) (fun _ _ => exec_move (.tmp 2) (.inl rfl) _ rfl) ?_
      refine k0 (wt_none rfl _) rfl (.int .i64 ((t : Nat) : Int)) (fun _ _ => exec_move (.tmp 8) (.inl rfl) _ rfl) ?_
      refine k0 (wt_none rfl _) rfl (.int .i64 ((4 * t : Nat) : Int)) (fun _ _ => x_mul (.const (.int .i64 4)) (.tmp 37) _ _ rfl 4 t (4 * t) .i64 (by exact ⟨by omega, (show _ < 9223372036854775808 by omega)⟩) rfl rfl) ?_
      refine k0 (wt_none rfl _) rfl (.int .i64 (((4 * t) + 1 : Nat) : Int)) (fun _ _ => x_add (.tmp 38) (.const (.int .i64 1)) _ _ rfl (4 * t) 1 ((4 * t) + 1) .i64 (by exact ⟨by omega, (show _ < 9223372036854775808 by omega)⟩) rfl rfl) ?_
      refine k0 (wt_none rfl _) rfl (eP v2 ((4 * t) + 1)) (fun _ hC => x_ep Tryd.sb (.tmp 36) (.tmp 39) rfl (Rc.at h2 hC) ((4 * t) + 1) .i64 ((4 * t) + 1) (Nat.mul_one _) (by omega) rfl _ rfl rfl) ?_
      refine k0 (wt_none rfl _) rfl (.int .u8 (((at8 b ((4 * t) + 1)).toNat : Nat) : Int)) (fun _ hC => x_ldp Tryd.u8 (.tmp 40) rfl (Rc.at h2 hC) ((4 * t) + 1) (by omega) _ (c8_get (by rw [hb]; omega)) rfl) ?_
      refine k0 (wt_none rfl _) rfl (.int .u32 (((at8 b ((4 * t) + 1)).toNat : Nat) : Int)) (fun _ _ => exec_conv Tryd.u8 Tryd.u32 (.tmp 41) rfl (((at8 b ((4 * t) + 1)).toNat : Nat) : Int) (((at8 b ((4 * t) + 1)).toNat : Nat) : Int) (wrapN .u32 ((at8 b ((4 * t) + 1)).toNat) (show _ < 4294967296 by have := UInt8.toNat_lt (at8 b ((4 * t) + 1)); omega)) rfl) ?_
      refine k0 (wt_none rfl _) rfl (.int .u32 ((lS 16 ((at8 b ((4 * t) + 1)).toNat) : Nat) : Int)) (fun _ _ => exec_lS (.tmp 42) (.const (.int .u64 16)) _ _ rfl ((at8 b ((4 * t) + 1)).toNat) 16 .u64 _ rfl (by omega) rfl rfl) ?_
      refine k0 (wt_none rfl _) rfl (.int .u32 ((og (lS 24 ((at8 b (4 * t)).toNat)) (lS 16 ((at8 b ((4 * t) + 1)).toNat)) : Nat) : Int)) (fun _ _ => exec_og (.tmp 35) (.tmp 43) _ _ rfl (lS 24 ((at8 b (4 * t)).toNat)) (lS 16 ((at8 b ((4 * t) + 1)).toNat)) rfl rfl) ?_
      refine k0 (wt_none rfl _) rfl (v2) (fun _ _ => exec_move (.tmp 2) (.inl rfl) _ rfl) ?_
      refine k0 (wt_none rfl _) rfl (.int .i64 ((t : Nat) : Int)) (fun _ _ => exec_move (.tmp 8) (.inl rfl) _ rfl) ?_
      refine k0 (wt_none rfl _) rfl (.int .i64 ((4 * t : Nat) : Int)) (fun _ _ => x_mul (.const (.int .i64 4)) (.tmp 46) _ _ rfl 4 t (4 * t) .i64 (by exact ⟨by omega, (show _ < 9223372036854775808 by omega)⟩) rfl rfl) ?_
      refine k0 (wt_none rfl _) rfl (.int .i64 (((4 * t) + 2 : Nat) : Int)) (fun _ _ => x_add (.tmp 47) (.const (.int .i64 2)) _ _ rfl (4 * t) 2 ((4 * t) + 2) .i64 (by exact ⟨by omega, (show _ < 9223372036854775808 by omega)⟩) rfl rfl) ?_
      refine k0 (wt_none rfl _) rfl (eP v2 ((4 * t) + 2)) (fun _ hC => x_ep Tryd.sb (.tmp 45) (.tmp 48) rfl (Rc.at h2 hC) ((4 * t) + 2) .i64 ((4 * t) + 2) (Nat.mul_one _) (by omega) rfl _ rfl rfl) ?_
      refine k0 (wt_none rfl _) rfl (.int .u8 (((at8 b ((4 * t) + 2)).toNat : Nat) : Int)) (fun _ hC => x_ldp Tryd.u8 (.tmp 49) rfl (Rc.at h2 hC) ((4 * t) + 2) (by omega) _ (c8_get (by rw [hb]; omega)) rfl) ?_
      refine k0 (wt_none rfl _) rfl (.int .u32 (((at8 b ((4 * t) + 2)).toNat : Nat) : Int)) (fun _ _ => exec_conv Tryd.u8 Tryd.u32 (.tmp 50) rfl (((at8 b ((4 * t) + 2)).toNat : Nat) : Int) (((at8 b ((4 * t) + 2)).toNat : Nat) : Int) (wrapN .u32 ((at8 b ((4 * t) + 2)).toNat) (show _ < 4294967296 by have := UInt8.toNat_lt (at8 b ((4 * t) + 2)); omega)) rfl) ?_
      refine k0 (wt_none rfl _) rfl (.int .u32 ((lS 8 ((at8 b ((4 * t) + 2)).toNat) : Nat) : Int)) (fun _ _ => exec_lS (.tmp 51) (.const (.int .u64 8)) _ _ rfl ((at8 b ((4 * t) + 2)).toNat) 8 .u64 _ rfl (by omega) rfl rfl) ?_
      refine k0 (wt_none rfl _) rfl (.int .u32 ((og (og (lS 24 ((at8 b (4 * t)).toNat)) (lS 16 ((at8 b ((4 * t) + 1)).toNat))) (lS 8 ((at8 b ((4 * t) + 2)).toNat)) : Nat) : Int)) (fun _ _ => exec_og (.tmp 44) (.tmp 52) _ _ rfl (og (lS 24 ((at8 b (4 * t)).toNat)) (lS 16 ((at8 b ((4 * t) + 1)).toNat))) (lS 8 ((at8 b ((4 * t) + 2)).toNat)) rfl rfl) ?_
      refine k0 (wt_none rfl _) rfl (v2) (fun _ _ => exec_move (.tmp 2) (.inl rfl) _ rfl) ?_
      refine k0 (wt_none rfl _) rfl (.int .i64 ((t : Nat) : Int)) (fun _ _ => exec_move (.tmp 8) (.inl rfl) _ rfl) ?_
      refine k0 (wt_none rfl _) rfl (.int .i64 ((4 * t : Nat) : Int)) (fun _ _ => x_mul (.const (.int .i64 4)) (.tmp 55) _ _ rfl 4 t (4 * t) .i64 (by exact ⟨by omega, (show _ < 9223372036854775808 by omega)⟩) rfl rfl) ?_
      refine k0 (wt_none rfl _) rfl (.int .i64 (((4 * t) + 3 : Nat) : Int)) (fun _ _ => x_add (.tmp 56) (.const (.int .i64 3)) _ _ rfl (4 * t) 3 ((4 * t) + 3) .i64 (by exact ⟨by omega, (show _ < 9223372036854775808 by omega)⟩) rfl rfl) ?_
      refine k0 (wt_none rfl _) rfl (eP v2 ((4 * t) + 3)) (fun _ hC => x_ep Tryd.sb (.tmp 54) (.tmp 57) rfl (Rc.at h2 hC) ((4 * t) + 3) .i64 ((4 * t) + 3) (Nat.mul_one _) (by omega) rfl _ rfl rfl) ?_
      refine k0 (wt_none rfl _) rfl (.int .u8 (((at8 b ((4 * t) + 3)).toNat : Nat) : Int)) (fun _ hC => x_ldp Tryd.u8 (.tmp 58) rfl (Rc.at h2 hC) ((4 * t) + 3) (by omega) _ (c8_get (by rw [hb]; omega)) rfl) ?_
      refine k0 (wt_none rfl _) rfl (.int .u32 (((at8 b ((4 * t) + 3)).toNat : Nat) : Int)) (fun _ _ => exec_conv Tryd.u8 Tryd.u32 (.tmp 59) rfl (((at8 b ((4 * t) + 3)).toNat : Nat) : Int) (((at8 b ((4 * t) + 3)).toNat : Nat) : Int) (wrapN .u32 ((at8 b ((4 * t) + 3)).toNat) (show _ < 4294967296 by have := UInt8.toNat_lt (at8 b ((4 * t) + 3)); omega)) rfl) ?_
      refine k0 (wt_none rfl _) rfl (.int .u32 ((og (og (og (lS 24 ((at8 b (4 * t)).toNat)) (lS 16 ((at8 b ((4 * t) + 1)).toNat))) (lS 8 ((at8 b ((4 * t) + 2)).toNat))) ((at8 b ((4 * t) + 3)).toNat) : Nat) : Int)) (fun _ _ => exec_og (.tmp 53) (.tmp 60) _ _ rfl (og (og (lS 24 ((at8 b (4 * t)).toNat)) (lS 16 ((at8 b ((4 * t) + 1)).toNat))) (lS 8 ((at8 b ((4 * t) + 2)).toNat))) ((at8 b ((4 * t) + 3)).toNat) rfl rfl) ?_
      refine k2 (wt_none rfl _) rfl (x_bld Tryd.sn 1 _ rfl mm9 (c32 [og (og (og (lS 24 ((at8 b (4 * t)).toNat)) (lS 16 ((at8 b ((4 * t) + 1)).toNat))) (lS 8 ((at8 b ((4 * t) + 2)).toNat))) ((at8 b ((4 * t) + 3)).toNat)]) (c32 [og (og (og (lS 24 ((at8 b (4 * t)).toNat)) (lS 16 ((at8 b ((4 * t) + 1)).toNat))) (lS 8 ((at8 b ((4 * t) + 2)).toNat))) ((at8 b ((4 * t) + 3)).toNat)]) rfl (by decide) (one_size (cells_oc32 _)) (one_flat (cells_oc32 _)) rfl) ?_
      rintro vv10 ww11 mm12
      refine ⟨(mm12.sub (List.Sublist.cons _ (List.Sublist.cons _ List.Sublist.slnil))), ?_⟩
      refine k2 (wt_none rfl _) rfl (x_app Tryd.sn (.tmp 28) (.tmp 62) rfl mm12 1 rfl rfl (mm12.rc 0 rfl) rfl (c32_one _) (by omega) rfl) ?_
      rintro vv13 ww14 mm15
      have mm16 : Mo w ww14 [.own 38 1 vv10 1 (c32 ([og (og (og (lS 24 ((at8 b (4 * t)).toNat)) (lS 16 ((at8 b ((4 * t) + 1)).toNat))) (lS 8 ((at8 b ((4 * t) + 2)).toNat))) ((at8 b ((4 * t) + 3)).toNat)])), .own 38 1 vv13 (t + 1) (c32 (ws b (t + 1)))] := (by have h := mm15; rw [← c32_append, (show (ws b t) ++ ([og (og (og (lS 24 ((at8 b (4 * t)).toNat)) (lS 16 ((at8 b ((4 * t) + 1)).toNat))) (lS 8 ((at8 b ((4 * t) + 2)).toNat))) ((at8 b ((4 * t) + 3)).toNat)]) = ws b (t + 1) by exact (ws_low b t h16).symm)] at h; exact h)
      refine ⟨(mm16.sub (List.Sublist.cons _ (List.Sublist.cons _ List.Sublist.slnil))), ?_⟩
      refine k0 (wt_none rfl _) rfl (vv13) (fun _ _ => exec_move (.tmp 63) (.inr rfl) _ rfl) ?_
      refine kend ?_
      refine th_n ?_
      refine ex ?_
      refine th_x ?_
      refine ib_x ?_
      refine th_n ?_
      refine cz [(0, v0), (1, v1), (2, v2), (7, vv13), (8, .int .i64 ((t : Nat) : Int)), (23, .bool true), (27, .bool true)] ⟨rfl, rfl, rfl, rfl, rfl, rfl, rfl, trivial⟩ (fun _ => ?_)
      refine rp [0, 0, 0] ?_
      refine k0 (wt_none rfl _) rfl (.int .i64 ((t : Nat) : Int)) (fun _ _ => exec_move (.tmp 8) (.inl rfl) _ rfl) ?_
      refine k0 (wt_none rfl _) rfl (.int .i64 ((t + 1 : Nat) : Int)) (fun _ _ => x_add (.tmp 24) (.const (.int .i64 1)) _ _ rfl t 1 (t + 1) .i64 (by exact ⟨by omega, (show _ < 9223372036854775808 by omega)⟩) rfl rfl) ?_
      refine k0 (wt_none rfl _) rfl (.int .i64 ((t + 1 : Nat) : Int)) (fun _ _ => exec_move (.tmp 25) (.inr rfl) _ rfl) ?_
      refine kend ?_
      refine th_n ?_
      exact ⟨_, (⟨t + 1, vv13⟩ : Nat × Value), rfl, ⟨rfl, rfl, rfl, rfl, rfl, trivial⟩, ⟨(show (t + 1) ≤ 64 from (by omega)), (show Mo w ww14 [.own 38 1 vv13 (t + 1) (c32 (ws b (t + 1)))] from mm16.pick [1] (by decide) ⟨rfl, trivial⟩)⟩, (show 64 - (t + 1) < 64 - t by omega)⟩
    · skip
      refine cz [(0, v0), (1, v1), (2, v2), (7, v7), (8, .int .i64 ((t : Nat) : Int)), (23, .bool true)] ⟨rfl, rfl, rfl, rfl, rfl, rfl, trivial⟩ (fun _ => ?_)
      refine rp [0, 0] ?_
      refine k0 (wt_none rfl _) rfl (.int .i64 ((t : Nat) : Int)) (fun _ _ => exec_move (.tmp 8) (.inl rfl) _ rfl) ?_
      refine k0 (wt_none rfl _) rfl (.bool false) (fun _ _ => x_lss_f (.tmp 26) (.const (.int .i64 16)) _ _ rfl t 16 .i64 (by omega) rfl rfl) ?_
      refine kend ?_
      refine th_n ?_
      refine cdf rfl ?_
      refine sk ?_
      refine th_n ?_
      refine sq ?_
      refine cz [(0, v0), (1, v1), (2, v2), (7, v7), (8, .int .i64 ((t : Nat) : Int)), (23, .bool true), (27, .bool false)] ⟨rfl, rfl, rfl, rfl, rfl, rfl, rfl, trivial⟩ (fun _ => ?_)
      have mm18 := mm5.drew
      refine rq (fun w1 => Mo w w1 [.own 38 1 v7 t (c32 (ws b t))]) [0, 0, 0, 0, 0, 0, 0, 0, 0, 0, 0, 0] (by kernel_rfl) (by kernel_rfl) (by kernel_rfl) (mm18.sub (List.Sublist.cons_cons _ List.Sublist.slnil)) ?_
      refine k0 (wt_none rfl _) rfl (v7) (fun _ _ => exec_move (.tmp 7) (.inl rfl) _ rfl) ?_
      refine k0 (wt_none rfl _) rfl (.int .i64 ((t : Nat) : Int)) (fun _ _ => exec_move (.tmp 8) (.inl rfl) _ rfl) ?_
      refine k0 (wt_none rfl _) rfl (.int .i64 ((t - 15 : Nat) : Int)) (fun _ _ => x_sub (.tmp 65) (.const (.int .i64 15)) _ _ rfl t 15 (t - 15) .i64 (by exact ⟨by omega, (show _ < 9223372036854775808 by omega)⟩) rfl rfl) ?_
      refine k0 (wt_none rfl _) rfl (eP v7 (t - 15)) (fun _ hC => x_ep Tryd.sn (.tmp 64) (.tmp 66) rfl (hC.rc 0 rfl) (t - 15) .i64 (t - 15) (Nat.mul_one _) (by omega) rfl _ rfl rfl) ?_
      refine k0 (wt_none rfl _) rfl (.int .u32 ((at32 (ws b t) (t - 15) : Nat) : Int)) (fun _ hC => x_ldp Tryd.u32 (.tmp 67) rfl (hC.rc 0 rfl) (t - 15) (by omega) _ (c32_get (by rw [ws_length]; omega)) rfl) ?_
      refine k0 (wt_none rfl _) rfl (v7) (fun _ _ => exec_move (.tmp 7) (.inl rfl) _ rfl) ?_
      refine k0 (wt_none rfl _) rfl (.int .i64 ((t : Nat) : Int)) (fun _ _ => exec_move (.tmp 8) (.inl rfl) _ rfl) ?_
      refine k0 (wt_none rfl _) rfl (.int .i64 ((t - 2 : Nat) : Int)) (fun _ _ => x_sub (.tmp 70) (.const (.int .i64 2)) _ _ rfl t 2 (t - 2) .i64 (by exact ⟨by omega, (show _ < 9223372036854775808 by omega)⟩) rfl rfl) ?_
      refine k0 (wt_none rfl _) rfl (eP v7 (t - 2)) (fun _ hC => x_ep Tryd.sn (.tmp 69) (.tmp 71) rfl (hC.rc 0 rfl) (t - 2) .i64 (t - 2) (Nat.mul_one _) (by omega) rfl _ rfl rfl) ?_
      refine k0 (wt_none rfl _) rfl (.int .u32 ((at32 (ws b t) (t - 2) : Nat) : Int)) (fun _ hC => x_ldp Tryd.u32 (.tmp 72) rfl (hC.rc 0 rfl) (t - 2) (by omega) _ (c32_get (by rw [ws_length]; omega)) rfl) ?_
      refine k0 (wt_none rfl _) rfl (.int .u32 ((at32 (ws b t) (t - 15) : Nat) : Int)) (fun _ _ => exec_move (.tmp 68) (.inr rfl) _ rfl) ?_
      refine k0 (wt_none rfl _) rfl (.int .u32 ((at32 (ws b t) (t - 2) : Nat) : Int)) (fun _ _ => exec_move (.tmp 73) (.inr rfl) _ rfl) ?_
      refine kend ?_
      refine th_n ?_
      refine sq ?_
      refine cz [(0, v0), (1, v1), (2, v2), (7, v7), (8, .int .i64 ((t : Nat) : Int)), (9, .int .u32 ((at32 (ws b t) (t - 15) : Nat) : Int)), (10, .int .u32 ((at32 (ws b t) (t - 2) : Nat) : Int)), (23, .bool true), (27, .bool false)] ⟨rfl, rfl, rfl, rfl, rfl, rfl, rfl, rfl, rfl, trivial⟩ (fun _ => ?_)
      refine rp [0, 2, 0, 2, 0, 0, 0, 0, 0] ?_
      refine k0 (wt_none rfl _) rfl (.int .u32 ((at32 (ws b t) (t - 15) : Nat) : Int)) (fun _ _ => exec_move (.tmp 9) (.inl rfl) _ rfl) ?_
      refine kq (wt_none rfl _) rfl (x_cl2 (v0 := .int .u32 ((at32 (ws b t) (t - 15) : Nat) : Int)) (v1 := .int .u64 7) rfl rfl rfl (by kernel_rfl)) (.int .u32 ((rr 7 (at32 (ws b t) (t - 15)) : Nat) : Int)) (turn_any 7 (at32 (ws b t) (t - 15)) (by decide) _) trivial ?_
      refine k0 (wt_none rfl _) rfl (.int .u32 ((at32 (ws b t) (t - 15) : Nat) : Int)) (fun _ _ => exec_move (.tmp 9) (.inl rfl) _ rfl) ?_
      refine kq (wt_none rfl _) rfl (x_cl2 (v0 := .int .u32 ((at32 (ws b t) (t - 15) : Nat) : Int)) (v1 := .int .u64 18) rfl rfl rfl (by kernel_rfl)) (.int .u32 ((rr 18 (at32 (ws b t) (t - 15)) : Nat) : Int)) (turn_any 18 (at32 (ws b t) (t - 15)) (by decide) _) trivial ?_
      refine k0 (wt_none rfl _) rfl (.int .u32 ((xo (rr 7 (at32 (ws b t) (t - 15))) (rr 18 (at32 (ws b t) (t - 15))) : Nat) : Int)) (fun _ _ => exec_xo (.tmp 75) (.tmp 77) _ _ rfl (rr 7 (at32 (ws b t) (t - 15))) (rr 18 (at32 (ws b t) (t - 15))) rfl rfl) ?_
      refine k0 (wt_none rfl _) rfl (.int .u32 ((at32 (ws b t) (t - 15) : Nat) : Int)) (fun _ _ => exec_move (.tmp 9) (.inl rfl) _ rfl) ?_
      refine k0 (wt_none rfl _) rfl (.int .u32 ((rS 3 (at32 (ws b t) (t - 15)) : Nat) : Int)) (fun _ _ => exec_rS (.tmp 79) (.const (.int .u64 3)) _ _ rfl (at32 (ws b t) (t - 15)) 3 .u64 _ rfl (by omega) rfl rfl) ?_
      refine k0 (wt_none rfl _) rfl (.int .u32 ((xo (xo (rr 7 (at32 (ws b t) (t - 15))) (rr 18 (at32 (ws b t) (t - 15)))) (rS 3 (at32 (ws b t) (t - 15))) : Nat) : Int)) (fun _ _ => exec_xo (.tmp 78) (.tmp 80) _ _ rfl (xo (rr 7 (at32 (ws b t) (t - 15))) (rr 18 (at32 (ws b t) (t - 15)))) (rS 3 (at32 (ws b t) (t - 15))) rfl rfl) ?_
      refine k0 (wt_none rfl _) rfl (.int .u32 ((xo (xo (rr 7 (at32 (ws b t) (t - 15))) (rr 18 (at32 (ws b t) (t - 15)))) (rS 3 (at32 (ws b t) (t - 15))) : Nat) : Int)) (fun _ _ => exec_move (.tmp 81) (.inr rfl) _ rfl) ?_
      refine kend ?_
      refine th_n ?_
      refine sq ?_
      refine cz [(0, v0), (1, v1), (2, v2), (7, v7), (8, .int .i64 ((t : Nat) : Int)), (9, .int .u32 ((at32 (ws b t) (t - 15) : Nat) : Int)), (10, .int .u32 ((at32 (ws b t) (t - 2) : Nat) : Int)), (11, .int .u32 ((xo (xo (rr 7 (at32 (ws b t) (t - 15))) (rr 18 (at32 (ws b t) (t - 15)))) (rS 3 (at32 (ws b t) (t - 15))) : Nat) : Int)), (23, .bool true), (27, .bool false)] ⟨rfl, rfl, rfl, rfl, rfl, rfl, rfl, rfl, rfl, rfl, trivial⟩ (fun _ => ?_)
      refine rp [0, 2, 0, 2, 0, 0, 0, 0, 0] ?_
      refine k0 (wt_none rfl _) rfl (.int .u32 ((at32 (ws b t) (t - 2) : Nat) : Int)) (fun _ _ => exec_move (.tmp 10) (.inl rfl) _ rfl) ?_
      refine kq (wt_none rfl _) rfl (x_cl2 (v0 := .int .u32 ((at32 (ws b t) (t - 2) : Nat) : Int)) (v1 := .int .u64 17) rfl rfl rfl (by kernel_rfl)) (.int .u32 ((rr 17 (at32 (ws b t) (t - 2)) : Nat) : Int)) (turn_any 17 (at32 (ws b t) (t - 2)) (by decide) _) trivial ?_
      refine k0 (wt_none rfl _) rfl (.int .u32 ((at32 (ws b t) (t - 2) : Nat) : Int)) (fun _ _ => exec_move (.tmp 10) (.inl rfl) _ rfl) ?_
      refine kq (wt_none rfl _) rfl (x_cl2 (v0 := .int .u32 ((at32 (ws b t) (t - 2) : Nat) : Int)) (v1 := .int .u64 19) rfl rfl rfl (by kernel_rfl)) (.int .u32 ((rr 19 (at32 (ws b t) (t - 2)) : Nat) : Int)) (turn_any 19 (at32 (ws b t) (t - 2)) (by decide) _) trivial ?_
      refine k0 (wt_none rfl _) rfl (.int .u32 ((xo (rr 17 (at32 (ws b t) (t - 2))) (rr 19 (at32 (ws b t) (t - 2))) : Nat) : Int)) (fun _ _ => exec_xo (.tmp 83) (.tmp 85) _ _ rfl (rr 17 (at32 (ws b t) (t - 2))) (rr 19 (at32 (ws b t) (t - 2))) rfl rfl) ?_
      refine k0 (wt_none rfl _) rfl (.int .u32 ((at32 (ws b t) (t - 2) : Nat) : Int)) (fun _ _ => exec_move (.tmp 10) (.inl rfl) _ rfl) ?_
      refine k0 (wt_none rfl _) rfl (.int .u32 ((rS 10 (at32 (ws b t) (t - 2)) : Nat) : Int)) (fun _ _ => exec_rS (.tmp 87) (.const (.int .u64 10)) _ _ rfl (at32 (ws b t) (t - 2)) 10 .u64 _ rfl (by omega) rfl rfl) ?_
      refine k0 (wt_none rfl _) rfl (.int .u32 ((xo (xo (rr 17 (at32 (ws b t) (t - 2))) (rr 19 (at32 (ws b t) (t - 2)))) (rS 10 (at32 (ws b t) (t - 2))) : Nat) : Int)) (fun _ _ => exec_xo (.tmp 86) (.tmp 88) _ _ rfl (xo (rr 17 (at32 (ws b t) (t - 2))) (rr 19 (at32 (ws b t) (t - 2)))) (rS 10 (at32 (ws b t) (t - 2))) rfl rfl) ?_
      refine k0 (wt_none rfl _) rfl (.int .u32 ((xo (xo (rr 17 (at32 (ws b t) (t - 2))) (rr 19 (at32 (ws b t) (t - 2)))) (rS 10 (at32 (ws b t) (t - 2))) : Nat) : Int)) (fun _ _ => exec_move (.tmp 89) (.inr rfl) _ rfl) ?_
      refine kend ?_
      refine th_n ?_
      refine cz [(0, v0), (1, v1), (2, v2), (7, v7), (8, .int .i64 ((t : Nat) : Int)), (9, .int .u32 ((at32 (ws b t) (t - 15) : Nat) : Int)), (10, .int .u32 ((at32 (ws b t) (t - 2) : Nat) : Int)), (11, .int .u32 ((xo (xo (rr 7 (at32 (ws b t) (t - 15))) (rr 18 (at32 (ws b t) (t - 15)))) (rS 3 (at32 (ws b t) (t - 15))) : Nat) : Int)), (12, .int .u32 ((xo (xo (rr 17 (at32 (ws b t) (t - 2))) (rr 19 (at32 (ws b t) (t - 2)))) (rS 10 (at32 (ws b t) (t - 2))) : Nat) : Int)), (23, .bool true), (27, .bool false)] ⟨rfl, rfl, rfl, rfl, rfl, rfl, rfl, rfl, rfl, rfl, rfl, trivial⟩ (fun _ => ?_)
      have mm20 := mm18.drew
      refine rq (fun w1 => Mo w w1 []) [0, 0, 0, 0, 0, 1, 1, 0, 0, 0, 0, 0, 0, 1, 1, 0, 2, 2, 0] (by kernel_rfl) (by kernel_rfl) (by kernel_rfl) (mm20.sub (List.Sublist.cons _ List.Sublist.slnil)) ?_
      refine k0 (wt_none rfl _) rfl (v7) (fun _ _ => exec_move (.tmp 7) (.inl rfl) _ rfl) ?_
      refine k0 (wt_none rfl _) rfl (.int .u32 ((xo (xo (rr 17 (at32 (ws b t) (t - 2))) (rr 19 (at32 (ws b t) (t - 2)))) (rS 10 (at32 (ws b t) (t - 2))) : Nat) : Int)) (fun _ _ => exec_move (.tmp 12) (.inl rfl) _ rfl) ?_
      refine k0 (wt_none rfl _) rfl (v7) (fun _ _ => exec_move (.tmp 7) (.inl rfl) _ rfl) ?_
      refine k0 (wt_none rfl _) rfl (.int .i64 ((t : Nat) : Int)) (fun _ _ => exec_move (.tmp 8) (.inl rfl) _ rfl) ?_
      refine k0 (wt_none rfl _) rfl (.int .i64 ((t - 7 : Nat) : Int)) (fun _ _ => x_sub (.tmp 93) (.const (.int .i64 7)) _ _ rfl t 7 (t - 7) .i64 (by exact ⟨by omega, (show _ < 9223372036854775808 by omega)⟩) rfl rfl) ?_
      refine k1 (wt_none rfl _) rfl (eP v7 (t - 7)) (x_ep Tryd.sn (.tmp 92) (.tmp 94) rfl (mm20.rc 0 rfl) (t - 7) .i64 (t - 7) (Nat.mul_one _) (by omega) rfl _ rfl rfl) ?_
      refine k1 (wt_none rfl _) rfl (.int .u32 ((at32 (ws b t) (t - 7) : Nat) : Int)) (x_ldp Tryd.u32 (.tmp 95) rfl (mm20.rc 0 rfl) (t - 7) (by omega) _ (c32_get (by rw [ws_length]; omega)) rfl) ?_
      refine k0 (wt_none rfl _) rfl (.int .u32 ((ad (xo (xo (rr 17 (at32 (ws b t) (t - 2))) (rr 19 (at32 (ws b t) (t - 2)))) (rS 10 (at32 (ws b t) (t - 2)))) (at32 (ws b t) (t - 7)) : Nat) : Int)) (fun _ _ => exec_ad (.tmp 91) (.tmp 96) _ _ rfl (xo (xo (rr 17 (at32 (ws b t) (t - 2))) (rr 19 (at32 (ws b t) (t - 2)))) (rS 10 (at32 (ws b t) (t - 2)))) (at32 (ws b t) (t - 7)) rfl rfl) ?_
      refine k0 (wt_none rfl _) rfl (.int .u32 ((xo (xo (rr 7 (at32 (ws b t) (t - 15))) (rr 18 (at32 (ws b t) (t - 15)))) (rS 3 (at32 (ws b t) (t - 15))) : Nat) : Int)) (fun _ _ => exec_move (.tmp 11) (.inl rfl) _ rfl) ?_
      refine k0 (wt_none rfl _) rfl (.int .u32 ((ad (ad (xo (xo (rr 17 (at32 (ws b t) (t - 2))) (rr 19 (at32 (ws b t) (t - 2)))) (rS 10 (at32 (ws b t) (t - 2)))) (at32 (ws b t) (t - 7))) (xo (xo (rr 7 (at32 (ws b t) (t - 15))) (rr 18 (at32 (ws b t) (t - 15)))) (rS 3 (at32 (ws b t) (t - 15)))) : Nat) : Int)) (fun _ _ => exec_ad (.tmp 97) (.tmp 98) _ _ rfl (ad (xo (xo (rr 17 (at32 (ws b t) (t - 2))) (rr 19 (at32 (ws b t) (t - 2)))) (rS 10 (at32 (ws b t) (t - 2)))) (at32 (ws b t) (t - 7))) (xo (xo (rr 7 (at32 (ws b t) (t - 15))) (rr 18 (at32 (ws b t) (t - 15)))) (rS 3 (at32 (ws b t) (t - 15)))) rfl rfl) ?_
      refine k0 (wt_none rfl _) rfl (v7) (fun _ _ => exec_move (.tmp 7) (.inl rfl) _ rfl) ?_
      refine k0 (wt_none rfl _) rfl (.int .i64 ((t : Nat) : Int)) (fun _ _ => exec_move (.tmp 8) (.inl rfl) _ rfl) ?_
      refine k0 (wt_none rfl _) rfl (.int .i64 ((t - 16 : Nat) : Int)) (fun _ _ => x_sub (.tmp 101) (.const (.int .i64 16)) _ _ rfl t 16 (t - 16) .i64 (by exact ⟨by omega, (show _ < 9223372036854775808 by omega)⟩) rfl rfl) ?_
      refine k1 (wt_none rfl _) rfl (eP v7 (t - 16)) (x_ep Tryd.sn (.tmp 100) (.tmp 102) rfl (mm20.rc 0 rfl) (t - 16) .i64 (t - 16) (Nat.mul_one _) (by omega) rfl _ rfl rfl) ?_
      refine k1 (wt_none rfl _) rfl (.int .u32 ((at32 (ws b t) (t - 16) : Nat) : Int)) (x_ldp Tryd.u32 (.tmp 103) rfl (mm20.rc 0 rfl) (t - 16) (by omega) _ (c32_get (by rw [ws_length]; omega)) rfl) ?_
      refine k0 (wt_none rfl _) rfl (.int .u32 ((ad (ad (ad (xo (xo (rr 17 (at32 (ws b t) (t - 2))) (rr 19 (at32 (ws b t) (t - 2)))) (rS 10 (at32 (ws b t) (t - 2)))) (at32 (ws b t) (t - 7))) (xo (xo (rr 7 (at32 (ws b t) (t - 15))) (rr 18 (at32 (ws b t) (t - 15)))) (rS 3 (at32 (ws b t) (t - 15))))) (at32 (ws b t) (t - 16)) : Nat) : Int)) (fun _ _ => exec_ad (.tmp 99) (.tmp 104) _ _ rfl (ad (ad (xo (xo (rr 17 (at32 (ws b t) (t - 2))) (rr 19 (at32 (ws b t) (t - 2)))) (rS 10 (at32 (ws b t) (t - 2)))) (at32 (ws b t) (t - 7))) (xo (xo (rr 7 (at32 (ws b t) (t - 15))) (rr 18 (at32 (ws b t) (t - 15)))) (rS 3 (at32 (ws b t) (t - 15))))) (at32 (ws b t) (t - 16)) rfl rfl) ?_
      refine k2 (wt_none rfl _) rfl (x_bld Tryd.sn 1 _ rfl mm20 (c32 [ad (ad (ad (xo (xo (rr 17 (at32 (ws b t) (t - 2))) (rr 19 (at32 (ws b t) (t - 2)))) (rS 10 (at32 (ws b t) (t - 2)))) (at32 (ws b t) (t - 7))) (xo (xo (rr 7 (at32 (ws b t) (t - 15))) (rr 18 (at32 (ws b t) (t - 15)))) (rS 3 (at32 (ws b t) (t - 15))))) (at32 (ws b t) (t - 16))]) (c32 [ad (ad (ad (xo (xo (rr 17 (at32 (ws b t) (t - 2))) (rr 19 (at32 (ws b t) (t - 2)))) (rS 10 (at32 (ws b t) (t - 2)))) (at32 (ws b t) (t - 7))) (xo (xo (rr 7 (at32 (ws b t) (t - 15))) (rr 18 (at32 (ws b t) (t - 15)))) (rS 3 (at32 (ws b t) (t - 15))))) (at32 (ws b t) (t - 16))]) rfl (by decide) (one_size (cells_oc32 _)) (one_flat (cells_oc32 _)) rfl) ?_
      rintro vv21 ww22 mm23
      refine ⟨(mm23.sub (List.Sublist.cons _ (List.Sublist.cons _ List.Sublist.slnil))), ?_⟩
      refine k2 (wt_none rfl _) rfl (x_app Tryd.sn (.tmp 90) (.tmp 106) rfl mm23 1 rfl rfl (mm23.rc 0 rfl) rfl (c32_one _) (by omega) rfl) ?_
      rintro vv24 ww25 mm26
      have mm27 : Mo w ww25 [.own 38 1 vv21 1 (c32 ([ad (ad (ad (xo (xo (rr 17 (at32 (ws b t) (t - 2))) (rr 19 (at32 (ws b t) (t - 2)))) (rS 10 (at32 (ws b t) (t - 2)))) (at32 (ws b t) (t - 7))) (xo (xo (rr 7 (at32 (ws b t) (t - 15))) (rr 18 (at32 (ws b t) (t - 15)))) (rS 3 (at32 (ws b t) (t - 15))))) (at32 (ws b t) (t - 16))])), .own 38 1 vv24 (t + 1) (c32 (ws b (t + 1)))] := (by have h := mm26; rw [← c32_append, (show (ws b t) ++ ([ad (ad (ad (xo (xo (rr 17 (at32 (ws b t) (t - 2))) (rr 19 (at32 (ws b t) (t - 2)))) (rS 10 (at32 (ws b t) (t - 2)))) (at32 (ws b t) (t - 7))) (xo (xo (rr 7 (at32 (ws b t) (t - 15))) (rr 18 (at32 (ws b t) (t - 15)))) (rS 3 (at32 (ws b t) (t - 15))))) (at32 (ws b t) (t - 16))]) = ws b (t + 1) by exact (ws_high b t (by omega)).symm)] at h; exact h)
      refine ⟨(mm27.sub (List.Sublist.cons _ (List.Sublist.cons _ List.Sublist.slnil))), ?_⟩
      refine k0 (wt_none rfl _) rfl (vv24) (fun _ _ => exec_move (.tmp 107) (.inr rfl) _ rfl) ?_
      refine kend ?_
      refine ib_n ?_
      refine th_n ?_
      refine cz [(0, v0), (1, v1), (2, v2), (7, vv24), (8, .int .i64 ((t : Nat) : Int)), (9, .int .u32 ((at32 (ws b t) (t - 15) : Nat) : Int)), (10, .int .u32 ((at32 (ws b t) (t - 2) : Nat) : Int)), (11, .int .u32 ((xo (xo (rr 7 (at32 (ws b t) (t - 15))) (rr 18 (at32 (ws b t) (t - 15)))) (rS 3 (at32 (ws b t) (t - 15))) : Nat) : Int)), (12, .int .u32 ((xo (xo (rr 17 (at32 (ws b t) (t - 2))) (rr 19 (at32 (ws b t) (t - 2)))) (rS 10 (at32 (ws b t) (t - 2))) : Nat) : Int)), (23, .bool true), (27, .bool false)] ⟨rfl, rfl, rfl, rfl, rfl, rfl, rfl, rfl, rfl, rfl, rfl, trivial⟩ (fun _ => ?_)
      refine rp [0, 0, 0] ?_
      refine k0 (wt_none rfl _) rfl (.int .i64 ((t : Nat) : Int)) (fun _ _ => exec_move (.tmp 8) (.inl rfl) _ rfl) ?_
      refine k0 (wt_none rfl _) rfl (.int .i64 ((t + 1 : Nat) : Int)) (fun _ _ => x_add (.tmp 24) (.const (.int .i64 1)) _ _ rfl t 1 (t + 1) .i64 (by exact ⟨by omega, (show _ < 9223372036854775808 by omega)⟩) rfl rfl) ?_
      refine k0 (wt_none rfl _) rfl (.int .i64 ((t + 1 : Nat) : Int)) (fun _ _ => exec_move (.tmp 25) (.inr rfl) _ rfl) ?_
      refine kend ?_
      refine th_n ?_
      exact ⟨_, (⟨t + 1, vv24⟩ : Nat × Value), rfl, ⟨rfl, rfl, rfl, rfl, rfl, trivial⟩, ⟨(show (t + 1) ≤ 64 from (by omega)), (show Mo w ww25 [.own 38 1 vv24 (t + 1) (c32 (ws b (t + 1)))] from mm27.pick [1] (by decide) ⟨rfl, trivial⟩)⟩, (show 64 - (t + 1) < 64 - t by omega)⟩
  · -- behind the loop
    obtain rfl : t = 64 := by omega
    refine sq ?_
    refine sq ?_
    refine cz [(0, v0), (1, v1), (2, v2), (7, v7), (8, .int .i64 64)] ⟨rfl, rfl, rfl, rfl, rfl, trivial⟩ (fun _ => ?_)
    refine rp [0, 0] ?_
    refine k0 (wt_none rfl _) rfl (.int .i64 64) (fun _ _ => exec_move (.tmp 8) (.inl rfl) _ rfl) ?_
    refine k0 (wt_none rfl _) rfl (.bool false) (fun _ _ => x_lss_f (.tmp 22) (.const (.int .i64 64)) _ _ rfl 64 64 .i64 (by omega) rfl rfl) ?_
    refine kend ?_
    refine th_n ?_
    refine cdf rfl ?_
    refine ex ?_
    refine th_x ?_
    refine th_x ?_
    refine ib_x ?_
    refine th_n ?_
    refine sq ?_
    refine cz [(0, v0), (1, v1), (2, v2), (7, v7), (8, .int .i64 64), (23, .bool false)] ⟨rfl, rfl, rfl, rfl, rfl, rfl, trivial⟩ (fun _ => ?_)
    refine rp [2, 0, 2, 0] ?_
    refine k2 (wt_none rfl _) rfl (x_bld Tryd.sn 0 _ rfl mm5 [] [] rfl (by decide) (fun _ h => absurd h List.not_mem_nil) rfl rfl) ?_
    rintro vv28 ww29 mm30
    refine ⟨trivial, ?_⟩
    refine k0 (wt_none rfl _) rfl (v0) (fun _ _ => exec_move (.tmp 0) (.inl rfl) _ rfl) ?_
    refine k2 (wt_none rfl _) rfl (x_app Tryd.sn (.tmp 108) (.tmp 109) rfl mm30 0 rfl rfl (Rc.at h0 mm30) (by simp only [c32_length, Nat.mul_one]; try omega) (c32_one _) (by omega) rfl) ?_
    rintro vv31 ww32 mm33
    have mm34 : Mo w ww32 [.own 38 1 vv31 8 (c32 n), .own 38 1 v7 64 (c32 (ws b 64))] := (by have h := mm33; rw [List.nil_append, Nat.zero_add] at h; exact h)
    refine ⟨trivial, ?_⟩
    refine k0 (wt_none rfl _) rfl (vv31) (fun _ _ => exec_move (.tmp 110) (.inr rfl) _ rfl) ?_
    refine kend ?_
    refine th_n ?_
    refine sq ?_
    refine sq ?_
    refine cz [(0, v0), (1, v1), (2, v2), (7, v7), (8, .int .i64 64), (13, vv31), (23, .bool false)] ⟨rfl, rfl, rfl, rfl, rfl, rfl, rfl, trivial⟩ (fun _ => ?_)
    refine rp [0] ?_
    refine k0 (wt_none rfl _) rfl (.int .i64 0) (fun _ _ => exec_move (.const (.int .i64 0)) (.inr rfl) _ rfl) ?_
    refine kend ?_
    refine th_n ?_
    refine bk ?_
    have mm35 : Mo w ww32 [.own 38 1 vv31 8 (c32 (rnT stepsL (ws b 64) n 0)), .own 38 1 v7 64 (c32 (ws b 64))] := (by have h := mm34; rw [show c32 n = c32 (rnT stepsL (ws b 64) n 0) from (by rfl)] at h; exact h)
    refine lp (fun (x : Nat × Value × Value) => [(0, v0), (1, v1), (2, v2), (7, x.2.2), (13, x.2.1), (14, .int .i64 ((x.1 : Nat) : Int))]) (fun (x : Nat × Value × Value) w1 => x.1 ≤ 64 ∧ Mo w w1 [.own 38 1 x.2.1 8 (c32 (rnT stepsL (ws b 64) n x.1)), .own 38 1 x.2.2 64 (c32 (ws b 64))]) (fun (x : Nat × Value × Value) => 64 - x.1) (⟨0, vv31, v7⟩) ⟨rfl, rfl, rfl, rfl, rfl, rfl, trivial⟩ ⟨(show 0 ≤ 64 from (by omega)), (show Mo w ww32 [.own 38 1 vv31 8 (c32 (rnT stepsL (ws b 64) n 0)), .own 38 1 v7 64 (c32 (ws b 64))] from mm35)⟩ ?_
    rintro ⟨t, v13, v7⟩ _ ww37 ⟨hh38, mm36⟩
    replace hh38 : t ≤ 64 := hh38
    replace mm36 : Mo w ww37 [.own 38 1 v13 8 (c32 (rnT stepsL (ws b 64) n t)), .own 38 1 v7 64 (c32 (ws b 64))] := mm36
    refine cz [(0, v0), (1, v1), (2, v2), (7, v7), (13, v13), (14, .int .i64 ((t : Nat) : Int))] ⟨rfl, rfl, rfl, rfl, rfl, rfl, trivial⟩ (fun _ => ?_)
    by_cases hlt : t < 64
    · -- round
      refine sq ?_
      refine sq ?_
      refine cz [(0, v0), (1, v1), (2, v2), (7, v7), (13, v13), (14, .int .i64 ((t : Nat) : Int))] ⟨rfl, rfl, rfl, rfl, rfl, rfl, trivial⟩ (fun _ => ?_)
      refine rp [0, 0] ?_
      refine k0 (wt_none rfl _) rfl (.int .i64 ((t : Nat) : Int)) (fun _ _ => exec_move (.tmp 14) (.inl rfl) _ rfl) ?_
      refine k0 (wt_none rfl _) rfl (.bool true) (fun _ _ => x_lss_t (.tmp 111) (.const (.int .i64 64)) _ _ rfl t 64 .i64 (by omega) rfl rfl) ?_
      refine kend ?_
      refine th_n ?_
      refine cdt rfl ?_
      refine sk ?_
      refine th_n ?_
      refine sq ?_
      refine bk ?_
      refine sq ?_
      refine cz [(0, v0), (1, v1), (2, v2), (7, v7), (13, v13), (14, .int .i64 ((t : Nat) : Int)), (112, .bool true)] ⟨rfl, rfl, rfl, rfl, rfl, rfl, rfl, trivial⟩ (fun _ => ?_)
      have mm40 := mm36.drew
      refine rq (fun w1 => Mo w w1 [.own 38 1 v13 8 (c32 (rnT stepsL (ws b 64) n t)), .own 38 1 v7 64 (c32 (ws b 64))]) [0, 0, 0, 0, 0, 0, 0, 0, 0, 0, 0, 0] (by kernel_rfl) (by kernel_rfl) (by kernel_rfl) (mm40.sub (List.Sublist.cons_cons _ (List.Sublist.cons_cons _ List.Sublist.slnil))) ?_
      refine k0 (wt_none rfl _) rfl (v13) (fun _ _ => exec_move (.tmp 13) (.inl rfl) _ rfl) ?_
      refine k0 (wt_none rfl _) rfl (eP v13 0) (fun _ hC => x_ep Tryd.sn (.tmp 115) (.const (.int .i64 0)) rfl (hC.rc 0 rfl) 0 .i64 0 (Nat.mul_one _) (by omega) rfl _ rfl rfl) ?_
      refine k0 (wt_none rfl _) rfl (.int .u32 ((at32 (rnT stepsL (ws b 64) n t) 0 : Nat) : Int)) (fun _ hC => x_ldp Tryd.u32 (.tmp 116) rfl (hC.rc 0 rfl) 0 (by omega) _ (c32_get (by rw [hV]; omega)) rfl) ?_
      refine k0 (wt_none rfl _) rfl (v13) (fun _ _ => exec_move (.tmp 13) (.inl rfl) _ rfl) ?_
      refine k0 (wt_none rfl _) rfl (eP v13 2) (fun _ hC => x_ep Tryd.sn (.tmp 118) (.const (.int .i64 2)) rfl (hC.rc 0 rfl) 2 .i64 2 (Nat.mul_one _) (by omega) rfl _ rfl rfl) ?_
      refine k0 (wt_none rfl _) rfl (.int .u32 ((at32 (rnT stepsL (ws b 64) n t) 2 : Nat) : Int)) (fun _ hC => x_ldp Tryd.u32 (.tmp 119) rfl (hC.rc 0 rfl) 2 (by omega) _ (c32_get (by rw [hV]; omega)) rfl) ?_
      refine k0 (wt_none rfl _) rfl (v13) (fun _ _ => exec_move (.tmp 13) (.inl rfl) _ rfl) ?_
      refine k0 (wt_none rfl _) rfl (eP v13 4) (fun _ hC => x_ep Tryd.sn (.tmp 121) (.const (.int .i64 4)) rfl (hC.rc 0 rfl) 4 .i64 4 (Nat.mul_one _) (by omega) rfl _ rfl rfl) ?_
      refine k0 (wt_none rfl _) rfl (.int .u32 ((at32 (rnT stepsL (ws b 64) n t) 4 : Nat) : Int)) (fun _ hC => x_ldp Tryd.u32 (.tmp 122) rfl (hC.rc 0 rfl) 4 (by omega) _ (c32_get (by rw [hV]; omega)) rfl) ?_
      refine k0 (wt_none rfl _) rfl (.int .u32 ((at32 (rnT stepsL (ws b 64) n t) 0 : Nat) : Int)) (fun _ _ => exec_move (.tmp 117) (.inr rfl) _ rfl) ?_
      refine k0 (wt_none rfl _) rfl (.int .u32 ((at32 (rnT stepsL (ws b 64) n t) 2 : Nat) : Int)) (fun _ _ => exec_move (.tmp 120) (.inr rfl) _ rfl) ?_
      refine k0 (wt_none rfl _) rfl (.int .u32 ((at32 (rnT stepsL (ws b 64) n t) 4 : Nat) : Int)) (fun _ _ => exec_move (.tmp 123) (.inr rfl) _ rfl) ?_
      refine kend ?_
      refine th_n ?_
      refine sq ?_
      refine cz [(0, v0), (1, v1), (2, v2), (7, v7), (13, v13), (14, .int .i64 ((t : Nat) : Int)), (15, .int .u32 ((at32 (rnT stepsL (ws b 64) n t) 0 : Nat) : Int)), (16, .int .u32 ((at32 (rnT stepsL (ws b 64) n t) 2 : Nat) : Int)), (17, .int .u32 ((at32 (rnT stepsL (ws b 64) n t) 4 : Nat) : Int)), (112, .bool true)] ⟨rfl, rfl, rfl, rfl, rfl, rfl, rfl, rfl, rfl, rfl, trivial⟩ (fun _ => ?_)
      have mm42 := mm40.drew
      refine rq (fun w1 => Mo w w1 [.own 38 1 v13 8 (c32 (rnT stepsL (ws b 64) n t)), .own 38 1 v7 64 (c32 (ws b 64))]) [0, 0, 0, 0, 2, 0, 2, 0, 0, 2, 0, 0, 0, 0, 0, 0, 0, 0, 0, 0, 0, 0, 0, 0, 0, 0, 0, 0, 0, 0, 0, 0, 0, 0, 0, 0] (by kernel_rfl) (by kernel_rfl) (by kernel_rfl) (mm42.sub (List.Sublist.cons_cons _ (List.Sublist.cons_cons _ List.Sublist.slnil))) ?_
      refine k0 (wt_none rfl _) rfl (v13) (fun _ _ => exec_move (.tmp 13) (.inl rfl) _ rfl) ?_
      refine k0 (wt_none rfl _) rfl (eP v13 7) (fun _ hC => x_ep Tryd.sn (.tmp 124) (.const (.int .i64 7)) rfl (hC.rc 0 rfl) 7 .i64 7 (Nat.mul_one _) (by omega) rfl _ rfl rfl) ?_
      refine k0 (wt_none rfl _) rfl (.int .u32 ((at32 (rnT stepsL (ws b 64) n t) 7 : Nat) : Int)) (fun _ hC => x_ldp Tryd.u32 (.tmp 125) rfl (hC.rc 0 rfl) 7 (by omega) _ (c32_get (by rw [hV]; omega)) rfl) ?_
      refine k0 (wt_none rfl _) rfl (.int .u32 ((at32 (rnT stepsL (ws b 64) n t) 4 : Nat) : Int)) (fun _ _ => exec_move (.tmp 17) (.inl rfl) _ rfl) ?_
      refine kq (wt_none rfl _) rfl (x_cl2 (v0 := .int .u32 ((at32 (rnT stepsL (ws b 64) n t) 4 : Nat) : Int)) (v1 := .int .u64 6) rfl rfl rfl (by kernel_rfl)) (.int .u32 ((rr 6 (at32 (rnT stepsL (ws b 64) n t) 4) : Nat) : Int)) (turn_any 6 (at32 (rnT stepsL (ws b 64) n t) 4) (by decide) _) (mm42.sub (List.Sublist.cons_cons _ (List.Sublist.cons_cons _ List.Sublist.slnil))) ?_
      refine k0 (wt_none rfl _) rfl (.int .u32 ((at32 (rnT stepsL (ws b 64) n t) 4 : Nat) : Int)) (fun _ _ => exec_move (.tmp 17) (.inl rfl) _ rfl) ?_
      refine kq (wt_none rfl _) rfl (x_cl2 (v0 := .int .u32 ((at32 (rnT stepsL (ws b 64) n t) 4 : Nat) : Int)) (v1 := .int .u64 11) rfl rfl rfl (by kernel_rfl)) (.int .u32 ((rr 11 (at32 (rnT stepsL (ws b 64) n t) 4) : Nat) : Int)) (turn_any 11 (at32 (rnT stepsL (ws b 64) n t) 4) (by decide) _) (mm42.sub (List.Sublist.cons_cons _ (List.Sublist.cons_cons _ List.Sublist.slnil))) ?_
      refine k0 (wt_none rfl _) rfl (.int .u32 ((xo (rr 6 (at32 (rnT stepsL (ws b 64) n t) 4)) (rr 11 (at32 (rnT stepsL (ws b 64) n t) 4)) : Nat) : Int)) (fun _ _ => exec_xo (.tmp 128) (.tmp 130) _ _ rfl (rr 6 (at32 (rnT stepsL (ws b 64) n t) 4)) (rr 11 (at32 (rnT stepsL (ws b 64) n t) 4)) rfl rfl) ?_
      refine k0 (wt_none rfl _) rfl (.int .u32 ((at32 (rnT stepsL (ws b 64) n t) 4 : Nat) : Int)) (fun _ _ => exec_move (.tmp 17) (.inl rfl) _ rfl) ?_
      refine kq (wt_none rfl _) rfl (x_cl2 (v0 := .int .u32 ((at32 (rnT stepsL (ws b 64) n t) 4 : Nat) : Int)) (v1 := .int .u64 25) rfl rfl rfl (by kernel_rfl)) (.int .u32 ((rr 25 (at32 (rnT stepsL (ws b 64) n t) 4) : Nat) : Int)) (turn_any 25 (at32 (rnT stepsL (ws b 64) n t) 4) (by decide) _) (mm42.sub (List.Sublist.cons_cons _ (List.Sublist.cons_cons _ List.Sublist.slnil))) ?_
      refine k0 (wt_none rfl _) rfl (.int .u32 ((xo (xo (rr 6 (at32 (rnT stepsL (ws b 64) n t) 4)) (rr 11 (at32 (rnT stepsL (ws b 64) n t) 4))) (rr 25 (at32 (rnT stepsL (ws b 64) n t) 4)) : Nat) : Int)) (fun _ _ => exec_xo (.tmp 131) (.tmp 133) _ _ rfl (xo (rr 6 (at32 (rnT stepsL (ws b 64) n t) 4)) (rr 11 (at32 (rnT stepsL (ws b 64) n t) 4))) (rr 25 (at32 (rnT stepsL (ws b 64) n t) 4)) rfl rfl) ?_
      refine k0 (wt_none rfl _) rfl (.int .u32 ((ad (at32 (rnT stepsL (ws b 64) n t) 7) (xo (xo (rr 6 (at32 (rnT stepsL (ws b 64) n t) 4)) (rr 11 (at32 (rnT stepsL (ws b 64) n t) 4))) (rr 25 (at32 (rnT stepsL (ws b 64) n t) 4))) : Nat) : Int)) (fun _ _ => exec_ad (.tmp 126) (.tmp 134) _ _ rfl (at32 (rnT stepsL (ws b 64) n t) 7) (xo (xo (rr 6 (at32 (rnT stepsL (ws b 64) n t) 4)) (rr 11 (at32 (rnT stepsL (ws b 64) n t) 4))) (rr 25 (at32 (rnT stepsL (ws b 64) n t) 4))) rfl rfl) ?_
      refine k0 (wt_none rfl _) rfl (.int .u32 ((at32 (rnT stepsL (ws b 64) n t) 4 : Nat) : Int)) (fun _ _ => exec_move (.tmp 17) (.inl rfl) _ rfl) ?_
      refine k0 (wt_none rfl _) rfl (v13) (fun _ _ => exec_move (.tmp 13) (.inl rfl) _ rfl) ?_
      refine k0 (wt_none rfl _) rfl (eP v13 5) (fun _ hC => x_ep Tryd.sn (.tmp 137) (.const (.int .i64 5)) rfl (hC.rc 0 rfl) 5 .i64 5 (Nat.mul_one _) (by omega) rfl _ rfl rfl) ?_
      refine k0 (wt_none rfl _) rfl (.int .u32 ((at32 (rnT stepsL (ws b 64) n t) 5 : Nat) : Int)) (fun _ hC => x_ldp Tryd.u32 (.tmp 138) rfl (hC.rc 0 rfl) 5 (by omega) _ (c32_get (by rw [hV]; omega)) rfl) ?_
      refine k0 (wt_none rfl _) rfl (.int .u32 ((an (at32 (rnT stepsL (ws b 64) n t) 4) (at32 (rnT stepsL (ws b 64) n t) 5) : Nat) : Int)) (fun _ _ => exec_an (.tmp 136) (.tmp 139) _ _ rfl (at32 (rnT stepsL (ws b 64) n t) 4) (at32 (rnT stepsL (ws b 64) n t) 5) rfl rfl) ?_
      refine k0 (wt_none rfl _) rfl (.int .u32 ((at32 (rnT stepsL (ws b 64) n t) 4 : Nat) : Int)) (fun _ _ => exec_move (.tmp 17) (.inl rfl) _ rfl) ?_
      refine k0 (wt_none rfl _) rfl (.int .u32 ((xo (at32 (rnT stepsL (ws b 64) n t) 4) 4294967295 : Nat) : Int)) (fun _ _ => exec_xo (.tmp 141) (.const (.int .u32 4294967295)) _ _ rfl (at32 (rnT stepsL (ws b 64) n t) 4) 4294967295 rfl rfl) ?_
      refine k0 (wt_none rfl _) rfl (v13) (fun _ _ => exec_move (.tmp 13) (.inl rfl) _ rfl) ?_
      refine k0 (wt_none rfl _) rfl (eP v13 6) (fun _ hC => x_ep Tryd.sn (.tmp 143) (.const (.int .i64 6)) rfl (hC.rc 0 rfl) 6 .i64 6 (Nat.mul_one _) (by omega) rfl _ rfl rfl) ?_
      refine k0 (wt_none rfl _) rfl (.int .u32 ((at32 (rnT stepsL (ws b 64) n t) 6 : Nat) : Int)) (fun _ hC => x_ldp Tryd.u32 (.tmp 144) rfl (hC.rc 0 rfl) 6 (by omega) _ (c32_get (by rw [hV]; omega)) rfl) ?_
      refine k0 (wt_none rfl _) rfl (.int .u32 ((an (xo (at32 (rnT stepsL (ws b 64) n t) 4) 4294967295) (at32 (rnT stepsL (ws b 64) n t) 6) : Nat) : Int)) (fun _ _ => exec_an (.tmp 142) (.tmp 145) _ _ rfl (xo (at32 (rnT stepsL (ws b 64) n t) 4) 4294967295) (at32 (rnT stepsL (ws b 64) n t) 6) rfl rfl) ?_
      refine k0 (wt_none rfl _) rfl (.int .u32 ((xo (an (at32 (rnT stepsL (ws b 64) n t) 4) (at32 (rnT stepsL (ws b 64) n t) 5)) (an (xo (at32 (rnT stepsL (ws b 64) n t) 4) 4294967295) (at32 (rnT stepsL (ws b 64) n t) 6)) : Nat) : Int)) (fun _ _ => exec_xo (.tmp 140) (.tmp 146) _ _ rfl (an (at32 (rnT stepsL (ws b 64) n t) 4) (at32 (rnT stepsL (ws b 64) n t) 5)) (an (xo (at32 (rnT stepsL (ws b 64) n t) 4) 4294967295) (at32 (rnT stepsL (ws b 64) n t) 6)) rfl rfl) ?_
      refine k0 (wt_none rfl _) rfl (.int .u32 ((ad (ad (at32 (rnT stepsL (ws b 64) n t) 7) (xo (xo (rr 6 (at32 (rnT stepsL (ws b 64) n t) 4)) (rr 11 (at32 (rnT stepsL (ws b 64) n t) 4))) (rr 25 (at32 (rnT stepsL (ws b 64) n t) 4)))) (xo (an (at32 (rnT stepsL (ws b 64) n t) 4) (at32 (rnT stepsL (ws b 64) n t) 5)) (an (xo (at32 (rnT stepsL (ws b 64) n t) 4) 4294967295) (at32 (rnT stepsL (ws b 64) n t) 6))) : Nat) : Int)) (fun _ _ => exec_ad (.tmp 135) (.tmp 147) _ _ rfl (ad (at32 (rnT stepsL (ws b 64) n t) 7) (xo (xo (rr 6 (at32 (rnT stepsL (ws b 64) n t) 4)) (rr 11 (at32 (rnT stepsL (ws b 64) n t) 4))) (rr 25 (at32 (rnT stepsL (ws b 64) n t) 4)))) (xo (an (at32 (rnT stepsL (ws b 64) n t) 4) (at32 (rnT stepsL (ws b 64) n t) 5)) (an (xo (at32 (rnT stepsL (ws b 64) n t) 4) 4294967295) (at32 (rnT stepsL (ws b 64) n t) 6))) rfl rfl) ?_
      refine k0 (wt_none rfl _) rfl (v1) (fun _ _ => exec_move (.tmp 1) (.inl rfl) _ rfl) ?_
      refine k0 (wt_none rfl _) rfl (.int .i64 ((t : Nat) : Int)) (fun _ _ => exec_move (.tmp 14) (.inl rfl) _ rfl) ?_
      refine k0 (wt_none rfl _) rfl (eP v1 t) (fun _ hC => x_ep Tryd.sn (.tmp 149) (.tmp 150) rfl (Rc.at h1 hC) t .i64 t (Nat.mul_one _) (by omega) rfl _ rfl rfl) ?_
      refine k0 (wt_none rfl _) rfl (.int .u32 ((at32 stepsL t : Nat) : Int)) (fun _ hC => x_ldp Tryd.u32 (.tmp 151) rfl (Rc.at h1 hC) t (by omega) _ (c32_get (by rw [stepsL_length]; omega)) rfl) ?_
      refine k0 (wt_none rfl _) rfl (.int .u32 ((ad (ad (ad (at32 (rnT stepsL (ws b 64) n t) 7) (xo (xo (rr 6 (at32 (rnT stepsL (ws b 64) n t) 4)) (rr 11 (at32 (rnT stepsL (ws b 64) n t) 4))) (rr 25 (at32 (rnT stepsL (ws b 64) n t) 4)))) (xo (an (at32 (rnT stepsL (ws b 64) n t) 4) (at32 (rnT stepsL (ws b 64) n t) 5)) (an (xo (at32 (rnT stepsL (ws b 64) n t) 4) 4294967295) (at32 (rnT stepsL (ws b 64) n t) 6)))) (at32 stepsL t) : Nat) : Int)) (fun _ _ => exec_ad (.tmp 148) (.tmp 152) _ _ rfl (ad (ad (at32 (rnT stepsL (ws b 64) n t) 7) (xo (xo (rr 6 (at32 (rnT stepsL (ws b 64) n t) 4)) (rr 11 (at32 (rnT stepsL (ws b 64) n t) 4))) (rr 25 (at32 (rnT stepsL (ws b 64) n t) 4)))) (xo (an (at32 (rnT stepsL (ws b 64) n t) 4) (at32 (rnT stepsL (ws b 64) n t) 5)) (an (xo (at32 (rnT stepsL (ws b 64) n t) 4) 4294967295) (at32 (rnT stepsL (ws b 64) n t) 6)))) (at32 stepsL t) rfl rfl) ?_
      refine k0 (wt_none rfl _) rfl (v7) (fun _ _ => exec_move (.tmp 7) (.inl rfl) _ rfl) ?_
      refine k0 (wt_none rfl _) rfl (.int .i64 ((t : Nat) : Int)) (fun _ _ => exec_move (.tmp 14) (.inl rfl) _ rfl) ?_
      refine k0 (wt_none rfl _) rfl (eP v7 t) (fun _ hC => x_ep Tryd.sn (.tmp 154) (.tmp 155) rfl (hC.rc 1 rfl) t .i64 t (Nat.mul_one _) (by omega) rfl _ rfl rfl) ?_
      refine k0 (wt_none rfl _) rfl (.int .u32 ((at32 (ws b 64) t : Nat) : Int)) (fun _ hC => x_ldp Tryd.u32 (.tmp 156) rfl (hC.rc 1 rfl) t (by omega) _ (c32_get (by rw [ws_length]; omega)) rfl) ?_
      refine k0 (wt_none rfl _) rfl (.int .u32 ((ad (ad (ad (ad (at32 (rnT stepsL (ws b 64) n t) 7) (xo (xo (rr 6 (at32 (rnT stepsL (ws b 64) n t) 4)) (rr 11 (at32 (rnT stepsL (ws b 64) n t) 4))) (rr 25 (at32 (rnT stepsL (ws b 64) n t) 4)))) (xo (an (at32 (rnT stepsL (ws b 64) n t) 4) (at32 (rnT stepsL (ws b 64) n t) 5)) (an (xo (at32 (rnT stepsL (ws b 64) n t) 4) 4294967295) (at32 (rnT stepsL (ws b 64) n t) 6)))) (at32 stepsL t)) (at32 (ws b 64) t) : Nat) : Int)) (fun _ _ => exec_ad (.tmp 153) (.tmp 157) _ _ rfl (ad (ad (ad (at32 (rnT stepsL (ws b 64) n t) 7) (xo (xo (rr 6 (at32 (rnT stepsL (ws b 64) n t) 4)) (rr 11 (at32 (rnT stepsL (ws b 64) n t) 4))) (rr 25 (at32 (rnT stepsL (ws b 64) n t) 4)))) (xo (an (at32 (rnT stepsL (ws b 64) n t) 4) (at32 (rnT stepsL (ws b 64) n t) 5)) (an (xo (at32 (rnT stepsL (ws b 64) n t) 4) 4294967295) (at32 (rnT stepsL (ws b 64) n t) 6)))) (at32 stepsL t)) (at32 (ws b 64) t) rfl rfl) ?_
      refine k0 (wt_none rfl _) rfl (.int .u32 ((ad (ad (ad (ad (at32 (rnT stepsL (ws b 64) n t) 7) (xo (xo (rr 6 (at32 (rnT stepsL (ws b 64) n t) 4)) (rr 11 (at32 (rnT stepsL (ws b 64) n t) 4))) (rr 25 (at32 (rnT stepsL (ws b 64) n t) 4)))) (xo (an (at32 (rnT stepsL (ws b 64) n t) 4) (at32 (rnT stepsL (ws b 64) n t) 5)) (an (xo (at32 (rnT stepsL (ws b 64) n t) 4) 4294967295) (at32 (rnT stepsL (ws b 64) n t) 6)))) (at32 stepsL t)) (at32 (ws b 64) t) : Nat) : Int)) (fun _ _ => exec_move (.tmp 158) (.inr rfl) _ rfl) ?_
      refine kend ?_
      refine th_n ?_
      refine sq ?_
      refine cz [(0, v0), (1, v1), (2, v2), (7, v7), (13, v13), (14, .int .i64 ((t : Nat) : Int)), (15, .int .u32 ((at32 (rnT stepsL (ws b 64) n t) 0 : Nat) : Int)), (16, .int .u32 ((at32 (rnT stepsL (ws b 64) n t) 2 : Nat) : Int)), (17, .int .u32 ((at32 (rnT stepsL (ws b 64) n t) 4 : Nat) : Int)), (18, .int .u32 ((ad (ad (ad (ad (at32 (rnT stepsL (ws b 64) n t) 7) (xo (xo (rr 6 (at32 (rnT stepsL (ws b 64) n t) 4)) (rr 11 (at32 (rnT stepsL (ws b 64) n t) 4))) (rr 25 (at32 (rnT stepsL (ws b 64) n t) 4)))) (xo (an (at32 (rnT stepsL (ws b 64) n t) 4) (at32 (rnT stepsL (ws b 64) n t) 5)) (an (xo (at32 (rnT stepsL (ws b 64) n t) 4) 4294967295) (at32 (rnT stepsL (ws b 64) n t) 6)))) (at32 stepsL t)) (at32 (ws b 64) t) : Nat) : Int)), (112, .bool true)] ⟨rfl, rfl, rfl, rfl, rfl, rfl, rfl, rfl, rfl, rfl, rfl, trivial⟩ (fun _ => ?_)
      have mm44 := mm42.drew
      refine rq (fun w1 => Mo w w1 [.own 38 1 v13 8 (c32 (rnT stepsL (ws b 64) n t)), .own 38 1 v7 64 (c32 (ws b 64))]) [0, 2, 0, 2, 0, 0, 2, 0, 0, 0, 0, 0, 0, 0, 0, 0, 0, 0, 0, 0, 0, 0, 0, 0, 0] (by kernel_rfl) (by kernel_rfl) (by kernel_rfl) (mm44.sub (List.Sublist.cons_cons _ (List.Sublist.cons_cons _ List.Sublist.slnil))) ?_
      refine k0 (wt_none rfl _) rfl (.int .u32 ((at32 (rnT stepsL (ws b 64) n t) 0 : Nat) : Int)) (fun _ _ => exec_move (.tmp 15) (.inl rfl) _ rfl) ?_
      refine kq (wt_none rfl _) rfl (x_cl2 (v0 := .int .u32 ((at32 (rnT stepsL (ws b 64) n t) 0 : Nat) : Int)) (v1 := .int .u64 2) rfl rfl rfl (by kernel_rfl)) (.int .u32 ((rr 2 (at32 (rnT stepsL (ws b 64) n t) 0) : Nat) : Int)) (turn_any 2 (at32 (rnT stepsL (ws b 64) n t) 0) (by decide) _) (mm44.sub (List.Sublist.cons_cons _ (List.Sublist.cons_cons _ List.Sublist.slnil))) ?_
      refine k0 (wt_none rfl _) rfl (.int .u32 ((at32 (rnT stepsL (ws b 64) n t) 0 : Nat) : Int)) (fun _ _ => exec_move (.tmp 15) (.inl rfl) _ rfl) ?_
      refine kq (wt_none rfl _) rfl (x_cl2 (v0 := .int .u32 ((at32 (rnT stepsL (ws b 64) n t) 0 : Nat) : Int)) (v1 := .int .u64 13) rfl rfl rfl (by kernel_rfl)) (.int .u32 ((rr 13 (at32 (rnT stepsL (ws b 64) n t) 0) : Nat) : Int)) (turn_any 13 (at32 (rnT stepsL (ws b 64) n t) 0) (by decide) _) (mm44.sub (List.Sublist.cons_cons _ (List.Sublist.cons_cons _ List.Sublist.slnil))) ?_
      refine k0 (wt_none rfl _) rfl (.int .u32 ((xo (rr 2 (at32 (rnT stepsL (ws b 64) n t) 0)) (rr 13 (at32 (rnT stepsL (ws b 64) n t) 0)) : Nat) : Int)) (fun _ _ => exec_xo (.tmp 160) (.tmp 162) _ _ rfl (rr 2 (at32 (rnT stepsL (ws b 64) n t) 0)) (rr 13 (at32 (rnT stepsL (ws b 64) n t) 0)) rfl rfl) ?_
      refine k0 (wt_none rfl _) rfl (.int .u32 ((at32 (rnT stepsL (ws b 64) n t) 0 : Nat) : Int)) (fun _ _ => exec_move (.tmp 15) (.inl rfl) _ rfl) ?_
      refine kq (wt_none rfl _) rfl (x_cl2 (v0 := .int .u32 ((at32 (rnT stepsL (ws b 64) n t) 0 : Nat) : Int)) (v1 := .int .u64 22) rfl rfl rfl (by kernel_rfl)) (.int .u32 ((rr 22 (at32 (rnT stepsL (ws b 64) n t) 0) : Nat) : Int)) (turn_any 22 (at32 (rnT stepsL (ws b 64) n t) 0) (by decide) _) (mm44.sub (List.Sublist.cons_cons _ (List.Sublist.cons_cons _ List.Sublist.slnil))) ?_
      refine k0 (wt_none rfl _) rfl (.int .u32 ((xo (xo (rr 2 (at32 (rnT stepsL (ws b 64) n t) 0)) (rr 13 (at32 (rnT stepsL (ws b 64) n t) 0))) (rr 22 (at32 (rnT stepsL (ws b 64) n t) 0)) : Nat) : Int)) (fun _ _ => exec_xo (.tmp 163) (.tmp 165) _ _ rfl (xo (rr 2 (at32 (rnT stepsL (ws b 64) n t) 0)) (rr 13 (at32 (rnT stepsL (ws b 64) n t) 0))) (rr 22 (at32 (rnT stepsL (ws b 64) n t) 0)) rfl rfl) ?_
      refine k0 (wt_none rfl _) rfl (.int .u32 ((at32 (rnT stepsL (ws b 64) n t) 0 : Nat) : Int)) (fun _ _ => exec_move (.tmp 15) (.inl rfl) _ rfl) ?_
      refine k0 (wt_none rfl _) rfl (v13) (fun _ _ => exec_move (.tmp 13) (.inl rfl) _ rfl) ?_
      refine k0 (wt_none rfl _) rfl (eP v13 1) (fun _ hC => x_ep Tryd.sn (.tmp 168) (.const (.int .i64 1)) rfl (hC.rc 0 rfl) 1 .i64 1 (Nat.mul_one _) (by omega) rfl _ rfl rfl) ?_
      refine k0 (wt_none rfl _) rfl (.int .u32 ((at32 (rnT stepsL (ws b 64) n t) 1 : Nat) : Int)) (fun _ hC => x_ldp Tryd.u32 (.tmp 169) rfl (hC.rc 0 rfl) 1 (by omega) _ (c32_get (by rw [hV]; omega)) rfl) ?_
      refine k0 (wt_none rfl _) rfl (.int .u32 ((an (at32 (rnT stepsL (ws b 64) n t) 0) (at32 (rnT stepsL (ws b 64) n t) 1) : Nat) : Int)) (fun _ _ => exec_an (.tmp 167) (.tmp 170) _ _ rfl (at32 (rnT stepsL (ws b 64) n t) 0) (at32 (rnT stepsL (ws b 64) n t) 1) rfl rfl) ?_
      refine k0 (wt_none rfl _) rfl (.int .u32 ((at32 (rnT stepsL (ws b 64) n t) 0 : Nat) : Int)) (fun _ _ => exec_move (.tmp 15) (.inl rfl) _ rfl) ?_
      refine k0 (wt_none rfl _) rfl (.int .u32 ((at32 (rnT stepsL (ws b 64) n t) 2 : Nat) : Int)) (fun _ _ => exec_move (.tmp 16) (.inl rfl) _ rfl) ?_
      refine k0 (wt_none rfl _) rfl (.int .u32 ((an (at32 (rnT stepsL (ws b 64) n t) 0) (at32 (rnT stepsL (ws b 64) n t) 2) : Nat) : Int)) (fun _ _ => exec_an (.tmp 172) (.tmp 173) _ _ rfl (at32 (rnT stepsL (ws b 64) n t) 0) (at32 (rnT stepsL (ws b 64) n t) 2) rfl rfl) ?_
      refine k0 (wt_none rfl _) rfl (.int .u32 ((xo (an (at32 (rnT stepsL (ws b 64) n t) 0) (at32 (rnT stepsL (ws b 64) n t) 1)) (an (at32 (rnT stepsL (ws b 64) n t) 0) (at32 (rnT stepsL (ws b 64) n t) 2)) : Nat) : Int)) (fun _ _ => exec_xo (.tmp 171) (.tmp 174) _ _ rfl (an (at32 (rnT stepsL (ws b 64) n t) 0) (at32 (rnT stepsL (ws b 64) n t) 1)) (an (at32 (rnT stepsL (ws b 64) n t) 0) (at32 (rnT stepsL (ws b 64) n t) 2)) rfl rfl) ?_
      refine k0 (wt_none rfl _) rfl (v13) (fun _ _ => exec_move (.tmp 13) (.inl rfl) _ rfl) ?_
      refine k0 (wt_none rfl _) rfl (eP v13 1) (fun _ hC => x_ep Tryd.sn (.tmp 176) (.const (.int .i64 1)) rfl (hC.rc 0 rfl) 1 .i64 1 (Nat.mul_one _) (by omega) rfl _ rfl rfl) ?_
      refine k0 (wt_none rfl _) rfl (.int .u32 ((at32 (rnT stepsL (ws b 64) n t) 1 : Nat) : Int)) (fun _ hC => x_ldp Tryd.u32 (.tmp 177) rfl (hC.rc 0 rfl) 1 (by omega) _ (c32_get (by rw [hV]; omega)) rfl) ?_
      refine k0 (wt_none rfl _) rfl (.int .u32 ((at32 (rnT stepsL (ws b 64) n t) 2 : Nat) : Int)) (fun _ _ => exec_move (.tmp 16) (.inl rfl) _ rfl) ?_
      refine k0 (wt_none rfl _) rfl (.int .u32 ((an (at32 (rnT stepsL (ws b 64) n t) 1) (at32 (rnT stepsL (ws b 64) n t) 2) : Nat) : Int)) (fun _ _ => exec_an (.tmp 178) (.tmp 179) _ _ rfl (at32 (rnT stepsL (ws b 64) n t) 1) (at32 (rnT stepsL (ws b 64) n t) 2) rfl rfl) ?_
      refine k0 (wt_none rfl _) rfl (.int .u32 ((xo (xo (an (at32 (rnT stepsL (ws b 64) n t) 0) (at32 (rnT stepsL (ws b 64) n t) 1)) (an (at32 (rnT stepsL (ws b 64) n t) 0) (at32 (rnT stepsL (ws b 64) n t) 2))) (an (at32 (rnT stepsL (ws b 64) n t) 1) (at32 (rnT stepsL (ws b 64) n t) 2)) : Nat) : Int)) (fun _ _ => exec_xo (.tmp 175) (.tmp 180) _ _ rfl (xo (an (at32 (rnT stepsL (ws b 64) n t) 0) (at32 (rnT stepsL (ws b 64) n t) 1)) (an (at32 (rnT stepsL (ws b 64) n t) 0) (at32 (rnT stepsL (ws b 64) n t) 2))) (an (at32 (rnT stepsL (ws b 64) n t) 1) (at32 (rnT stepsL (ws b 64) n t) 2)) rfl rfl) ?_
      refine k0 (wt_none rfl _) rfl (.int .u32 ((ad (xo (xo (rr 2 (at32 (rnT stepsL (ws b 64) n t) 0)) (rr 13 (at32 (rnT stepsL (ws b 64) n t) 0))) (rr 22 (at32 (rnT stepsL (ws b 64) n t) 0))) (xo (xo (an (at32 (rnT stepsL (ws b 64) n t) 0) (at32 (rnT stepsL (ws b 64) n t) 1)) (an (at32 (rnT stepsL (ws b 64) n t) 0) (at32 (rnT stepsL (ws b 64) n t) 2))) (an (at32 (rnT stepsL (ws b 64) n t) 1) (at32 (rnT stepsL (ws b 64) n t) 2))) : Nat) : Int)) (fun _ _ => exec_ad (.tmp 166) (.tmp 181) _ _ rfl (xo (xo (rr 2 (at32 (rnT stepsL (ws b 64) n t) 0)) (rr 13 (at32 (rnT stepsL (ws b 64) n t) 0))) (rr 22 (at32 (rnT stepsL (ws b 64) n t) 0))) (xo (xo (an (at32 (rnT stepsL (ws b 64) n t) 0) (at32 (rnT stepsL (ws b 64) n t) 1)) (an (at32 (rnT stepsL (ws b 64) n t) 0) (at32 (rnT stepsL (ws b 64) n t) 2))) (an (at32 (rnT stepsL (ws b 64) n t) 1) (at32 (rnT stepsL (ws b 64) n t) 2))) rfl rfl) ?_
      refine k0 (wt_none rfl _) rfl (.int .u32 ((ad (xo (xo (rr 2 (at32 (rnT stepsL (ws b 64) n t) 0)) (rr 13 (at32 (rnT stepsL (ws b 64) n t) 0))) (rr 22 (at32 (rnT stepsL (ws b 64) n t) 0))) (xo (xo (an (at32 (rnT stepsL (ws b 64) n t) 0) (at32 (rnT stepsL (ws b 64) n t) 1)) (an (at32 (rnT stepsL (ws b 64) n t) 0) (at32 (rnT stepsL (ws b 64) n t) 2))) (an (at32 (rnT stepsL (ws b 64) n t) 1) (at32 (rnT stepsL (ws b 64) n t) 2))) : Nat) : Int)) (fun _ _ => exec_move (.tmp 182) (.inr rfl) _ rfl) ?_
      refine kend ?_
      refine th_n ?_
      refine cz [(0, v0), (1, v1), (2, v2), (7, v7), (13, v13), (14, .int .i64 ((t : Nat) : Int)), (15, .int .u32 ((at32 (rnT stepsL (ws b 64) n t) 0 : Nat) : Int)), (16, .int .u32 ((at32 (rnT stepsL (ws b 64) n t) 2 : Nat) : Int)), (17, .int .u32 ((at32 (rnT stepsL (ws b 64) n t) 4 : Nat) : Int)), (18, .int .u32 ((ad (ad (ad (ad (at32 (rnT stepsL (ws b 64) n t) 7) (xo (xo (rr 6 (at32 (rnT stepsL (ws b 64) n t) 4)) (rr 11 (at32 (rnT stepsL (ws b 64) n t) 4))) (rr 25 (at32 (rnT stepsL (ws b 64) n t) 4)))) (xo (an (at32 (rnT stepsL (ws b 64) n t) 4) (at32 (rnT stepsL (ws b 64) n t) 5)) (an (xo (at32 (rnT stepsL (ws b 64) n t) 4) 4294967295) (at32 (rnT stepsL (ws b 64) n t) 6)))) (at32 stepsL t)) (at32 (ws b 64) t) : Nat) : Int)), (19, .int .u32 ((ad (xo (xo (rr 2 (at32 (rnT stepsL (ws b 64) n t) 0)) (rr 13 (at32 (rnT stepsL (ws b 64) n t) 0))) (rr 22 (at32 (rnT stepsL (ws b 64) n t) 0))) (xo (xo (an (at32 (rnT stepsL (ws b 64) n t) 0) (at32 (rnT stepsL (ws b 64) n t) 1)) (an (at32 (rnT stepsL (ws b 64) n t) 0) (at32 (rnT stepsL (ws b 64) n t) 2))) (an (at32 (rnT stepsL (ws b 64) n t) 1) (at32 (rnT stepsL (ws b 64) n t) 2))) : Nat) : Int)), (112, .bool true)] ⟨rfl, rfl, rfl, rfl, rfl, rfl, rfl, rfl, rfl, rfl, rfl, rfl, trivial⟩ (fun _ => ?_)
      have mm46 := mm44.drew
      refine rq (fun w1 => Mo w w1 [.own 38 1 v13 8 (c32 (rnT stepsL (ws b 64) n t)), .own 38 1 v7 64 (c32 (ws b 64))]) [0, 0, 0, 0, 0, 0, 0, 0, 0, 0, 0, 0, 0, 0, 0, 0, 0, 0, 0, 0, 0, 0, 0, 0, 0, 0, 2, 0] (by kernel_rfl) (by kernel_rfl) (by kernel_rfl) (mm46.sub (List.Sublist.cons_cons _ (List.Sublist.cons_cons _ List.Sublist.slnil))) ?_
      refine k0 (wt_none rfl _) rfl (.int .u32 ((ad (ad (ad (ad (at32 (rnT stepsL (ws b 64) n t) 7) (xo (xo (rr 6 (at32 (rnT stepsL (ws b 64) n t) 4)) (rr 11 (at32 (rnT stepsL (ws b 64) n t) 4))) (rr 25 (at32 (rnT stepsL (ws b 64) n t) 4)))) (xo (an (at32 (rnT stepsL (ws b 64) n t) 4) (at32 (rnT stepsL (ws b 64) n t) 5)) (an (xo (at32 (rnT stepsL (ws b 64) n t) 4) 4294967295) (at32 (rnT stepsL (ws b 64) n t) 6)))) (at32 stepsL t)) (at32 (ws b 64) t) : Nat) : Int)) (fun _ _ => exec_move (.tmp 18) (.inl rfl) _ rfl) ?_
      refine k0 (wt_none rfl _) rfl (.int .u32 ((ad (xo (xo (rr 2 (at32 (rnT stepsL (ws b 64) n t) 0)) (rr 13 (at32 (rnT stepsL (ws b 64) n t) 0))) (rr 22 (at32 (rnT stepsL (ws b 64) n t) 0))) (xo (xo (an (at32 (rnT stepsL (ws b 64) n t) 0) (at32 (rnT stepsL (ws b 64) n t) 1)) (an (at32 (rnT stepsL (ws b 64) n t) 0) (at32 (rnT stepsL (ws b 64) n t) 2))) (an (at32 (rnT stepsL (ws b 64) n t) 1) (at32 (rnT stepsL (ws b 64) n t) 2))) : Nat) : Int)) (fun _ _ => exec_move (.tmp 19) (.inl rfl) _ rfl) ?_
      refine k0 (wt_none rfl _) rfl (.int .u32 ((ad (ad (ad (ad (ad (at32 (rnT stepsL (ws b 64) n t) 7) (xo (xo (rr 6 (at32 (rnT stepsL (ws b 64) n t) 4)) (rr 11 (at32 (rnT stepsL (ws b 64) n t) 4))) (rr 25 (at32 (rnT stepsL (ws b 64) n t) 4)))) (xo (an (at32 (rnT stepsL (ws b 64) n t) 4) (at32 (rnT stepsL (ws b 64) n t) 5)) (an (xo (at32 (rnT stepsL (ws b 64) n t) 4) 4294967295) (at32 (rnT stepsL (ws b 64) n t) 6)))) (at32 stepsL t)) (at32 (ws b 64) t)) (ad (xo (xo (rr 2 (at32 (rnT stepsL (ws b 64) n t) 0)) (rr 13 (at32 (rnT stepsL (ws b 64) n t) 0))) (rr 22 (at32 (rnT stepsL (ws b 64) n t) 0))) (xo (xo (an (at32 (rnT stepsL (ws b 64) n t) 0) (at32 (rnT stepsL (ws b 64) n t) 1)) (an (at32 (rnT stepsL (ws b 64) n t) 0) (at32 (rnT stepsL (ws b 64) n t) 2))) (an (at32 (rnT stepsL (ws b 64) n t) 1) (at32 (rnT stepsL (ws b 64) n t) 2)))) : Nat) : Int)) (fun _ _ => exec_ad (.tmp 183) (.tmp 184) _ _ rfl (ad (ad (ad (ad (at32 (rnT stepsL (ws b 64) n t) 7) (xo (xo (rr 6 (at32 (rnT stepsL (ws b 64) n t) 4)) (rr 11 (at32 (rnT stepsL (ws b 64) n t) 4))) (rr 25 (at32 (rnT stepsL (ws b 64) n t) 4)))) (xo (an (at32 (rnT stepsL (ws b 64) n t) 4) (at32 (rnT stepsL (ws b 64) n t) 5)) (an (xo (at32 (rnT stepsL (ws b 64) n t) 4) 4294967295) (at32 (rnT stepsL (ws b 64) n t) 6)))) (at32 stepsL t)) (at32 (ws b 64) t)) (ad (xo (xo (rr 2 (at32 (rnT stepsL (ws b 64) n t) 0)) (rr 13 (at32 (rnT stepsL (ws b 64) n t) 0))) (rr 22 (at32 (rnT stepsL (ws b 64) n t) 0))) (xo (xo (an (at32 (rnT stepsL (ws b 64) n t) 0) (at32 (rnT stepsL (ws b 64) n t) 1)) (an (at32 (rnT stepsL (ws b 64) n t) 0) (at32 (rnT stepsL (ws b 64) n t) 2))) (an (at32 (rnT stepsL (ws b 64) n t) 1) (at32 (rnT stepsL (ws b 64) n t) 2)))) rfl rfl) ?_
      refine k0 (wt_none rfl _) rfl (v13) (fun _ _ => exec_move (.tmp 13) (.inl rfl) _ rfl) ?_
      refine k0 (wt_none rfl _) rfl (eP v13 0) (fun _ hC => x_ep Tryd.sn (.tmp 186) (.const (.int .i64 0)) rfl (hC.rc 0 rfl) 0 .i64 0 (Nat.mul_one _) (by omega) rfl _ rfl rfl) ?_
      refine k0 (wt_none rfl _) rfl (.int .u32 ((at32 (rnT stepsL (ws b 64) n t) 0 : Nat) : Int)) (fun _ hC => x_ldp Tryd.u32 (.tmp 187) rfl (hC.rc 0 rfl) 0 (by omega) _ (c32_get (by rw [hV]; omega)) rfl) ?_
      refine k0 (wt_none rfl _) rfl (v13) (fun _ _ => exec_move (.tmp 13) (.inl rfl) _ rfl) ?_
      refine k0 (wt_none rfl _) rfl (eP v13 1) (fun _ hC => x_ep Tryd.sn (.tmp 189) (.const (.int .i64 1)) rfl (hC.rc 0 rfl) 1 .i64 1 (Nat.mul_one _) (by omega) rfl _ rfl rfl) ?_
      refine k0 (wt_none rfl _) rfl (.int .u32 ((at32 (rnT stepsL (ws b 64) n t) 1 : Nat) : Int)) (fun _ hC => x_ldp Tryd.u32 (.tmp 190) rfl (hC.rc 0 rfl) 1 (by omega) _ (c32_get (by rw [hV]; omega)) rfl) ?_
      refine k0 (wt_none rfl _) rfl (v13) (fun _ _ => exec_move (.tmp 13) (.inl rfl) _ rfl) ?_
      refine k0 (wt_none rfl _) rfl (eP v13 2) (fun _ hC => x_ep Tryd.sn (.tmp 192) (.const (.int .i64 2)) rfl (hC.rc 0 rfl) 2 .i64 2 (Nat.mul_one _) (by omega) rfl _ rfl rfl) ?_
      refine k0 (wt_none rfl _) rfl (.int .u32 ((at32 (rnT stepsL (ws b 64) n t) 2 : Nat) : Int)) (fun _ hC => x_ldp Tryd.u32 (.tmp 193) rfl (hC.rc 0 rfl) 2 (by omega) _ (c32_get (by rw [hV]; omega)) rfl) ?_
      refine k0 (wt_none rfl _) rfl (v13) (fun _ _ => exec_move (.tmp 13) (.inl rfl) _ rfl) ?_
      refine k0 (wt_none rfl _) rfl (eP v13 3) (fun _ hC => x_ep Tryd.sn (.tmp 195) (.const (.int .i64 3)) rfl (hC.rc 0 rfl) 3 .i64 3 (Nat.mul_one _) (by omega) rfl _ rfl rfl) ?_
      refine k0 (wt_none rfl _) rfl (.int .u32 ((at32 (rnT stepsL (ws b 64) n t) 3 : Nat) : Int)) (fun _ hC => x_ldp Tryd.u32 (.tmp 196) rfl (hC.rc 0 rfl) 3 (by omega) _ (c32_get (by rw [hV]; omega)) rfl) ?_
      refine k0 (wt_none rfl _) rfl (.int .u32 ((ad (ad (ad (ad (at32 (rnT stepsL (ws b 64) n t) 7) (xo (xo (rr 6 (at32 (rnT stepsL (ws b 64) n t) 4)) (rr 11 (at32 (rnT stepsL (ws b 64) n t) 4))) (rr 25 (at32 (rnT stepsL (ws b 64) n t) 4)))) (xo (an (at32 (rnT stepsL (ws b 64) n t) 4) (at32 (rnT stepsL (ws b 64) n t) 5)) (an (xo (at32 (rnT stepsL (ws b 64) n t) 4) 4294967295) (at32 (rnT stepsL (ws b 64) n t) 6)))) (at32 stepsL t)) (at32 (ws b 64) t) : Nat) : Int)) (fun _ _ => exec_move (.tmp 18) (.inl rfl) _ rfl) ?_
      refine k0 (wt_none rfl _) rfl (.int .u32 ((ad (at32 (rnT stepsL (ws b 64) n t) 3) (ad (ad (ad (ad (at32 (rnT stepsL (ws b 64) n t) 7) (xo (xo (rr 6 (at32 (rnT stepsL (ws b 64) n t) 4)) (rr 11 (at32 (rnT stepsL (ws b 64) n t) 4))) (rr 25 (at32 (rnT stepsL (ws b 64) n t) 4)))) (xo (an (at32 (rnT stepsL (ws b 64) n t) 4) (at32 (rnT stepsL (ws b 64) n t) 5)) (an (xo (at32 (rnT stepsL (ws b 64) n t) 4) 4294967295) (at32 (rnT stepsL (ws b 64) n t) 6)))) (at32 stepsL t)) (at32 (ws b 64) t)) : Nat) : Int)) (fun _ _ => exec_ad (.tmp 197) (.tmp 198) _ _ rfl (at32 (rnT stepsL (ws b 64) n t) 3) (ad (ad (ad (ad (at32 (rnT stepsL (ws b 64) n t) 7) (xo (xo (rr 6 (at32 (rnT stepsL (ws b 64) n t) 4)) (rr 11 (at32 (rnT stepsL (ws b 64) n t) 4))) (rr 25 (at32 (rnT stepsL (ws b 64) n t) 4)))) (xo (an (at32 (rnT stepsL (ws b 64) n t) 4) (at32 (rnT stepsL (ws b 64) n t) 5)) (an (xo (at32 (rnT stepsL (ws b 64) n t) 4) 4294967295) (at32 (rnT stepsL (ws b 64) n t) 6)))) (at32 stepsL t)) (at32 (ws b 64) t)) rfl rfl) ?_
      refine k0 (wt_none rfl _) rfl (v13) (fun _ _ => exec_move (.tmp 13) (.inl rfl) _ rfl) ?_
      refine k0 (wt_none rfl _) rfl (eP v13 4) (fun _ hC => x_ep Tryd.sn (.tmp 200) (.const (.int .i64 4)) rfl (hC.rc 0 rfl) 4 .i64 4 (Nat.mul_one _) (by omega) rfl _ rfl rfl) ?_
      refine k0 (wt_none rfl _) rfl (.int .u32 ((at32 (rnT stepsL (ws b 64) n t) 4 : Nat) : Int)) (fun _ hC => x_ldp Tryd.u32 (.tmp 201) rfl (hC.rc 0 rfl) 4 (by omega) _ (c32_get (by rw [hV]; omega)) rfl) ?_
      refine k0 (wt_none rfl _) rfl (v13) (fun _ _ => exec_move (.tmp 13) (.inl rfl) _ rfl) ?_
      refine k0 (wt_none rfl _) rfl (eP v13 5) (fun _ hC => x_ep Tryd.sn (.tmp 203) (.const (.int .i64 5)) rfl (hC.rc 0 rfl) 5 .i64 5 (Nat.mul_one _) (by omega) rfl _ rfl rfl) ?_
      refine k0 (wt_none rfl _) rfl (.int .u32 ((at32 (rnT stepsL (ws b 64) n t) 5 : Nat) : Int)) (fun _ hC => x_ldp Tryd.u32 (.tmp 204) rfl (hC.rc 0 rfl) 5 (by omega) _ (c32_get (by rw [hV]; omega)) rfl) ?_
      refine k0 (wt_none rfl _) rfl (v13) (fun _ _ => exec_move (.tmp 13) (.inl rfl) _ rfl) ?_
      refine k0 (wt_none rfl _) rfl (eP v13 6) (fun _ hC => x_ep Tryd.sn (.tmp 206) (.const (.int .i64 6)) rfl (hC.rc 0 rfl) 6 .i64 6 (Nat.mul_one _) (by omega) rfl _ rfl rfl) ?_
      refine k0 (wt_none rfl _) rfl (.int .u32 ((at32 (rnT stepsL (ws b 64) n t) 6 : Nat) : Int)) (fun _ hC => x_ldp Tryd.u32 (.tmp 207) rfl (hC.rc 0 rfl) 6 (by omega) _ (c32_get (by rw [hV]; omega)) rfl) ?_
      refine k2 (wt_none rfl _) rfl (x_bld Tryd.sn 8 _ rfl mm46 (c32 [ad (ad (ad (ad (ad (at32 (rnT stepsL (ws b 64) n t) 7) (xo (xo (rr 6 (at32 (rnT stepsL (ws b 64) n t) 4)) (rr 11 (at32 (rnT stepsL (ws b 64) n t) 4))) (rr 25 (at32 (rnT stepsL (ws b 64) n t) 4)))) (xo (an (at32 (rnT stepsL (ws b 64) n t) 4) (at32 (rnT stepsL (ws b 64) n t) 5)) (an (xo (at32 (rnT stepsL (ws b 64) n t) 4) 4294967295) (at32 (rnT stepsL (ws b 64) n t) 6)))) (at32 stepsL t)) (at32 (ws b 64) t)) (ad (xo (xo (rr 2 (at32 (rnT stepsL (ws b 64) n t) 0)) (rr 13 (at32 (rnT stepsL (ws b 64) n t) 0))) (rr 22 (at32 (rnT stepsL (ws b 64) n t) 0))) (xo (xo (an (at32 (rnT stepsL (ws b 64) n t) 0) (at32 (rnT stepsL (ws b 64) n t) 1)) (an (at32 (rnT stepsL (ws b 64) n t) 0) (at32 (rnT stepsL (ws b 64) n t) 2))) (an (at32 (rnT stepsL (ws b 64) n t) 1) (at32 (rnT stepsL (ws b 64) n t) 2)))), at32 (rnT stepsL (ws b 64) n t) 0, at32 (rnT stepsL (ws b 64) n t) 1, at32 (rnT stepsL (ws b 64) n t) 2, ad (at32 (rnT stepsL (ws b 64) n t) 3) (ad (ad (ad (ad (at32 (rnT stepsL (ws b 64) n t) 7) (xo (xo (rr 6 (at32 (rnT stepsL (ws b 64) n t) 4)) (rr 11 (at32 (rnT stepsL (ws b 64) n t) 4))) (rr 25 (at32 (rnT stepsL (ws b 64) n t) 4)))) (xo (an (at32 (rnT stepsL (ws b 64) n t) 4) (at32 (rnT stepsL (ws b 64) n t) 5)) (an (xo (at32 (rnT stepsL (ws b 64) n t) 4) 4294967295) (at32 (rnT stepsL (ws b 64) n t) 6)))) (at32 stepsL t)) (at32 (ws b 64) t)), at32 (rnT stepsL (ws b 64) n t) 4, at32 (rnT stepsL (ws b 64) n t) 5, at32 (rnT stepsL (ws b 64) n t) 6]) (c32 [ad (ad (ad (ad (ad (at32 (rnT stepsL (ws b 64) n t) 7) (xo (xo (rr 6 (at32 (rnT stepsL (ws b 64) n t) 4)) (rr 11 (at32 (rnT stepsL (ws b 64) n t) 4))) (rr 25 (at32 (rnT stepsL (ws b 64) n t) 4)))) (xo (an (at32 (rnT stepsL (ws b 64) n t) 4) (at32 (rnT stepsL (ws b 64) n t) 5)) (an (xo (at32 (rnT stepsL (ws b 64) n t) 4) 4294967295) (at32 (rnT stepsL (ws b 64) n t) 6)))) (at32 stepsL t)) (at32 (ws b 64) t)) (ad (xo (xo (rr 2 (at32 (rnT stepsL (ws b 64) n t) 0)) (rr 13 (at32 (rnT stepsL (ws b 64) n t) 0))) (rr 22 (at32 (rnT stepsL (ws b 64) n t) 0))) (xo (xo (an (at32 (rnT stepsL (ws b 64) n t) 0) (at32 (rnT stepsL (ws b 64) n t) 1)) (an (at32 (rnT stepsL (ws b 64) n t) 0) (at32 (rnT stepsL (ws b 64) n t) 2))) (an (at32 (rnT stepsL (ws b 64) n t) 1) (at32 (rnT stepsL (ws b 64) n t) 2)))), at32 (rnT stepsL (ws b 64) n t) 0, at32 (rnT stepsL (ws b 64) n t) 1, at32 (rnT stepsL (ws b 64) n t) 2, ad (at32 (rnT stepsL (ws b 64) n t) 3) (ad (ad (ad (ad (at32 (rnT stepsL (ws b 64) n t) 7) (xo (xo (rr 6 (at32 (rnT stepsL (ws b 64) n t) 4)) (rr 11 (at32 (rnT stepsL (ws b 64) n t) 4))) (rr 25 (at32 (rnT stepsL (ws b 64) n t) 4)))) (xo (an (at32 (rnT stepsL (ws b 64) n t) 4) (at32 (rnT stepsL (ws b 64) n t) 5)) (an (xo (at32 (rnT stepsL (ws b 64) n t) 4) 4294967295) (at32 (rnT stepsL (ws b 64) n t) 6)))) (at32 stepsL t)) (at32 (ws b 64) t)), at32 (rnT stepsL (ws b 64) n t) 4, at32 (rnT stepsL (ws b 64) n t) 5, at32 (rnT stepsL (ws b 64) n t) 6]) rfl (by decide) (one_size (cells_oc32 _)) (one_flat (cells_oc32 _)) rfl) ?_
      rintro vv47 ww48 mm49
      have mm50 : Mo w ww48 [.own 38 1 vv47 8 (c32 (rnT stepsL (ws b 64) n (t + 1))), .own 38 1 v13 8 (c32 (rnT stepsL (ws b 64) n t)), .own 38 1 v7 64 (c32 (ws b 64))] := (by have h := mm49; rw [(show [ad (ad (ad (ad (ad (at32 (rnT stepsL (ws b 64) n t) 7) (xo (xo (rr 6 (at32 (rnT stepsL (ws b 64) n t) 4)) (rr 11 (at32 (rnT stepsL (ws b 64) n t) 4))) (rr 25 (at32 (rnT stepsL (ws b 64) n t) 4)))) (xo (an (at32 (rnT stepsL (ws b 64) n t) 4) (at32 (rnT stepsL (ws b 64) n t) 5)) (an (xo (at32 (rnT stepsL (ws b 64) n t) 4) 4294967295) (at32 (rnT stepsL (ws b 64) n t) 6)))) (at32 stepsL t)) (at32 (ws b 64) t)) (ad (xo (xo (rr 2 (at32 (rnT stepsL (ws b 64) n t) 0)) (rr 13 (at32 (rnT stepsL (ws b 64) n t) 0))) (rr 22 (at32 (rnT stepsL (ws b 64) n t) 0))) (xo (xo (an (at32 (rnT stepsL (ws b 64) n t) 0) (at32 (rnT stepsL (ws b 64) n t) 1)) (an (at32 (rnT stepsL (ws b 64) n t) 0) (at32 (rnT stepsL (ws b 64) n t) 2))) (an (at32 (rnT stepsL (ws b 64) n t) 1) (at32 (rnT stepsL (ws b 64) n t) 2)))), at32 (rnT stepsL (ws b 64) n t) 0, at32 (rnT stepsL (ws b 64) n t) 1, at32 (rnT stepsL (ws b 64) n t) 2, ad (at32 (rnT stepsL (ws b 64) n t) 3) (ad (ad (ad (ad (at32 (rnT stepsL (ws b 64) n t) 7) (xo (xo (rr 6 (at32 (rnT stepsL (ws b 64) n t) 4)) (rr 11 (at32 (rnT stepsL (ws b 64) n t) 4))) (rr 25 (at32 (rnT stepsL (ws b 64) n t) 4)))) (xo (an (at32 (rnT stepsL (ws b 64) n t) 4) (at32 (rnT stepsL (ws b 64) n t) 5)) (an (xo (at32 (rnT stepsL (ws b 64) n t) 4) 4294967295) (at32 (rnT stepsL (ws b 64) n t) 6)))) (at32 stepsL t)) (at32 (ws b 64) t)), at32 (rnT stepsL (ws b 64) n t) 4, at32 (rnT stepsL (ws b 64) n t) 5, at32 (rnT stepsL (ws b 64) n t) 6] = rnT stepsL (ws b 64) n (t + 1) by rfl)] at h; exact h)
      refine ⟨(mm50.sub (List.Sublist.cons _ (List.Sublist.cons_cons _ (List.Sublist.cons_cons _ List.Sublist.slnil)))), ?_⟩
      refine k0 (wt_none rfl _) rfl (vv47) (fun _ _ => exec_move (.tmp 209) (.inr rfl) _ rfl) ?_
      refine kend ?_
      refine ib_n ?_
      refine th_n ?_
      refine cz [(0, v0), (1, v1), (2, v2), (7, v7), (13, vv47), (14, .int .i64 ((t : Nat) : Int)), (15, .int .u32 ((at32 (rnT stepsL (ws b 64) n t) 0 : Nat) : Int)), (16, .int .u32 ((at32 (rnT stepsL (ws b 64) n t) 2 : Nat) : Int)), (17, .int .u32 ((at32 (rnT stepsL (ws b 64) n t) 4 : Nat) : Int)), (18, .int .u32 ((ad (ad (ad (ad (at32 (rnT stepsL (ws b 64) n t) 7) (xo (xo (rr 6 (at32 (rnT stepsL (ws b 64) n t) 4)) (rr 11 (at32 (rnT stepsL (ws b 64) n t) 4))) (rr 25 (at32 (rnT stepsL (ws b 64) n t) 4)))) (xo (an (at32 (rnT stepsL (ws b 64) n t) 4) (at32 (rnT stepsL (ws b 64) n t) 5)) (an (xo (at32 (rnT stepsL (ws b 64) n t) 4) 4294967295) (at32 (rnT stepsL (ws b 64) n t) 6)))) (at32 stepsL t)) (at32 (ws b 64) t) : Nat) : Int)), (19, .int .u32 ((ad (xo (xo (rr 2 (at32 (rnT stepsL (ws b 64) n t) 0)) (rr 13 (at32 (rnT stepsL (ws b 64) n t) 0))) (rr 22 (at32 (rnT stepsL (ws b 64) n t) 0))) (xo (xo (an (at32 (rnT stepsL (ws b 64) n t) 0) (at32 (rnT stepsL (ws b 64) n t) 1)) (an (at32 (rnT stepsL (ws b 64) n t) 0) (at32 (rnT stepsL (ws b 64) n t) 2))) (an (at32 (rnT stepsL (ws b 64) n t) 1) (at32 (rnT stepsL (ws b 64) n t) 2))) : Nat) : Int)), (112, .bool true)] ⟨rfl, rfl, rfl, rfl, rfl, rfl, rfl, rfl, rfl, rfl, rfl, rfl, trivial⟩ (fun _ => ?_)
      refine rp [0, 0, 0] ?_
      refine k0 (wt_none rfl _) rfl (.int .i64 ((t : Nat) : Int)) (fun _ _ => exec_move (.tmp 14) (.inl rfl) _ rfl) ?_
      refine k0 (wt_none rfl _) rfl (.int .i64 ((t + 1 : Nat) : Int)) (fun _ _ => x_add (.tmp 113) (.const (.int .i64 1)) _ _ rfl t 1 (t + 1) .i64 (by exact ⟨by omega, (show _ < 9223372036854775808 by omega)⟩) rfl rfl) ?_
      refine k0 (wt_none rfl _) rfl (.int .i64 ((t + 1 : Nat) : Int)) (fun _ _ => exec_move (.tmp 114) (.inr rfl) _ rfl) ?_
      refine kend ?_
      refine th_n ?_
      exact ⟨_, (⟨t + 1, vv47, v7⟩ : Nat × Value × Value), rfl, ⟨rfl, rfl, rfl, rfl, rfl, rfl, trivial⟩, ⟨(show (t + 1) ≤ 64 from (by omega)), (show Mo w ww48 [.own 38 1 vv47 8 (c32 (rnT stepsL (ws b 64) n (t + 1))), .own 38 1 v7 64 (c32 (ws b 64))] from mm50.pick [0, 2] (by decide) ⟨rfl, rfl, trivial⟩)⟩, (show 64 - (t + 1) < 64 - t by omega)⟩
    · -- behind the loop
      obtain rfl : t = 64 := by omega
      refine sq ?_
      refine sq ?_
      refine cz [(0, v0), (1, v1), (2, v2), (7, v7), (13, v13), (14, .int .i64 64)] ⟨rfl, rfl, rfl, rfl, rfl, rfl, trivial⟩ (fun _ => ?_)
      refine rp [0, 0] ?_
      refine k0 (wt_none rfl _) rfl (.int .i64 64) (fun _ _ => exec_move (.tmp 14) (.inl rfl) _ rfl) ?_
      refine k0 (wt_none rfl _) rfl (.bool false) (fun _ _ => x_lss_f (.tmp 111) (.const (.int .i64 64)) _ _ rfl 64 64 .i64 (by omega) rfl rfl) ?_
      refine kend ?_
      refine th_n ?_
      refine cdf rfl ?_
      refine ex ?_
      refine th_x ?_
      refine th_x ?_
      refine ib_x ?_
      refine th_n ?_
      refine sq ?_
      refine sq ?_
      refine cz [(0, v0), (1, v1), (2, v2), (7, v7), (13, v13), (14, .int .i64 64), (112, .bool false)] ⟨rfl, rfl, rfl, rfl, rfl, rfl, rfl, trivial⟩ (fun _ => ?_)
      refine rp [0] ?_
      refine k0 (wt_none rfl _) rfl (.int .i64 0) (fun _ _ => exec_move (.const (.int .i64 0)) (.inr rfl) _ rfl) ?_
      refine kend ?_
      refine th_n ?_
      refine bk ?_
      have mm51 : Mo w ww37 [.own 38 1 v13 8 (c32 (adds (rnT stepsL (ws b 64) n 64) n 0)), .own 38 1 v7 64 (c32 (ws b 64))] := (by have h := mm36; rw [show c32 (rnT stepsL (ws b 64) n 64) = c32 (adds (rnT stepsL (ws b 64) n 64) n 0) from (by rfl)] at h; exact h)
      refine lp (fun (x : Nat × Value) => [(0, v0), (13, x.2), (20, .int .i64 ((x.1 : Nat) : Int))]) (fun (x : Nat × Value) w1 => x.1 ≤ 8 ∧ Mo w w1 [.own 38 1 x.2 8 (c32 (adds (rnT stepsL (ws b 64) n 64) n x.1))]) (fun (x : Nat × Value) => 8 - x.1) (⟨0, v13⟩) ⟨rfl, rfl, rfl, trivial⟩ ⟨(show 0 ≤ 8 from (by omega)), (show Mo w ww37 [.own 38 1 v13 8 (c32 (adds (rnT stepsL (ws b 64) n 64) n 0))] from mm51.pick [0] (by decide) ⟨rfl, trivial⟩)⟩ ?_
      rintro ⟨i, v13⟩ _ ww53 ⟨hh54, mm52⟩
      replace hh54 : i ≤ 8 := hh54
      replace mm52 : Mo w ww53 [.own 38 1 v13 8 (c32 (adds (rnT stepsL (ws b 64) n 64) n i))] := mm52
      refine cz [(0, v0), (13, v13), (20, .int .i64 ((i : Nat) : Int))] ⟨rfl, rfl, rfl, trivial⟩ (fun _ => ?_)
      by_cases hlt : i < 8
      · -- round
        refine sq ?_
        refine sq ?_
        refine cz [(0, v0), (13, v13), (20, .int .i64 ((i : Nat) : Int))] ⟨rfl, rfl, rfl, trivial⟩ (fun _ => ?_)
        refine rp [0, 0] ?_
        refine k0 (wt_none rfl _) rfl (.int .i64 ((i : Nat) : Int)) (fun _ _ => exec_move (.tmp 20) (.inl rfl) _ rfl) ?_
        refine k0 (wt_none rfl _) rfl (.bool true) (fun _ _ => x_lss_t (.tmp 210) (.const (.int .i64 8)) _ _ rfl i 8 .i64 (by omega) rfl rfl) ?_
        refine kend ?_
        refine th_n ?_
        refine cdt rfl ?_
        refine sk ?_
        refine th_n ?_
        refine sq ?_
        refine bk ?_
        refine cz [(0, v0), (13, v13), (20, .int .i64 ((i : Nat) : Int)), (211, .bool true)] ⟨rfl, rfl, rfl, rfl, trivial⟩ (fun _ => ?_)
        have mm56 := mm52.drew
        refine rq (fun w1 => Mo w w1 []) [0, 0, 0, 0, 1, 1, 0, 0, 0, 0, 0, 1, 2] (by kernel_rfl) (by kernel_rfl) (by kernel_rfl) (mm56.sub (List.Sublist.cons _ List.Sublist.slnil)) ?_
        refine k0 (wt_none rfl _) rfl (v13) (fun _ _ => exec_move (.tmp 13) (.inl rfl) _ rfl) ?_
        refine k0 (wt_none rfl _) rfl (.int .i64 ((i : Nat) : Int)) (fun _ _ => exec_move (.tmp 20) (.inl rfl) _ rfl) ?_
        refine k0 (wt_none rfl _) rfl (v13) (fun _ _ => exec_move (.tmp 13) (.inl rfl) _ rfl) ?_
        refine k0 (wt_none rfl _) rfl (.int .i64 ((i : Nat) : Int)) (fun _ _ => exec_move (.tmp 20) (.inl rfl) _ rfl) ?_
        refine k1 (wt_none rfl _) rfl (eP v13 i) (x_ep Tryd.sn (.tmp 216) (.tmp 217) rfl (mm56.rc 0 rfl) i .i64 i (Nat.mul_one _) (by omega) rfl _ rfl rfl) ?_
        refine k1 (wt_none rfl _) rfl (.int .u32 ((at32 (rnT stepsL (ws b 64) n 64) i : Nat) : Int)) (x_ldp Tryd.u32 (.tmp 218) rfl (mm56.rc 0 rfl) i (by omega) _ (c32_get2 (adds_at _ _ _ _ (Nat.le_refl _)) (by rw [adds_length, hV]; omega)) rfl) ?_
        refine k0 (wt_none rfl _) rfl (v0) (fun _ _ => exec_move (.tmp 0) (.inl rfl) _ rfl) ?_
        refine k0 (wt_none rfl _) rfl (.int .i64 ((i : Nat) : Int)) (fun _ _ => exec_move (.tmp 20) (.inl rfl) _ rfl) ?_
        refine k0 (wt_none rfl _) rfl (eP v0 i) (fun _ hC => x_ep Tryd.sn (.tmp 220) (.tmp 221) rfl (Rc.at h0 hC) i .i64 i (Nat.mul_one _) (by omega) rfl _ rfl rfl) ?_
        refine k0 (wt_none rfl _) rfl (.int .u32 ((at32 n i : Nat) : Int)) (fun _ hC => x_ldp Tryd.u32 (.tmp 222) rfl (Rc.at h0 hC) i (by omega) _ (c32_get (by rw [hn]; omega)) rfl) ?_
        refine k0 (wt_none rfl _) rfl (.int .u32 ((ad (at32 (rnT stepsL (ws b 64) n 64) i) (at32 n i) : Nat) : Int)) (fun _ _ => exec_ad (.tmp 219) (.tmp 223) _ _ rfl (at32 (rnT stepsL (ws b 64) n 64) i) (at32 n i) rfl rfl) ?_
        refine k1 (wt_none rfl _) rfl (eP v13 i) (x_ep Tryd.sn (.tmp 214) (.tmp 215) rfl (mm56.rc 0 rfl) i .i64 i (Nat.mul_one _) (by omega) rfl _ rfl rfl) ?_
        refine ks (wt_none rfl _) rfl rfl (x_set (.tmp 225) (.tmp 224) rfl mm56 0 rfl i [.int .u32 ((ad (at32 (rnT stepsL (ws b 64) n 64) i) (at32 n i) : Nat) : Int)] (c32 (adds (rnT stepsL (ws b 64) n 64) n (i + 1))) Tryd.one32 (show _ + 1 ≤ _ by rw [c32_length]; rw [adds_length, hV]; omega) (Nat.zero_lt_succ _) (fun _ h => by rw [List.mem_singleton.1 h]; rfl) (by rw [cells_set32 (by rw [adds_length, hV]; omega)]; rfl) rfl (.int .u32 ((ad (at32 (rnT stepsL (ws b 64) n 64) i) (at32 n i) : Nat) : Int)) rfl rfl) ?_
        rintro ww57 mm58
        have mm59 : Mo w ww57 [.own 38 1 v13 8 (c32 (adds (rnT stepsL (ws b 64) n 64) n (i + 1)))] := mm58
        refine ⟨(mm59.sub (List.Sublist.cons _ List.Sublist.slnil)), ?_⟩
        refine kend ?_
        refine ib_n ?_
        refine th_n ?_
        refine cz [(0, v0), (13, v13), (20, .int .i64 ((i : Nat) : Int)), (211, .bool true)] ⟨rfl, rfl, rfl, rfl, trivial⟩ (fun _ => ?_)
        refine rp [0, 0, 0] ?_
        refine k0 (wt_none rfl _) rfl (.int .i64 ((i : Nat) : Int)) (fun _ _ => exec_move (.tmp 20) (.inl rfl) _ rfl) ?_
        refine k0 (wt_none rfl _) rfl (.int .i64 ((i + 1 : Nat) : Int)) (fun _ _ => x_add (.tmp 212) (.const (.int .i64 1)) _ _ rfl i 1 (i + 1) .i64 (by exact ⟨by omega, (show _ < 9223372036854775808 by omega)⟩) rfl rfl) ?_
        refine k0 (wt_none rfl _) rfl (.int .i64 ((i + 1 : Nat) : Int)) (fun _ _ => exec_move (.tmp 213) (.inr rfl) _ rfl) ?_
        refine kend ?_
        refine th_n ?_
        exact ⟨_, (⟨i + 1, v13⟩ : Nat × Value), rfl, ⟨rfl, rfl, rfl, trivial⟩, ⟨(show (i + 1) ≤ 8 from (by omega)), (show Mo w ww57 [.own 38 1 v13 8 (c32 (adds (rnT stepsL (ws b 64) n 64) n (i + 1)))] from mm59)⟩, (show 8 - (i + 1) < 8 - i by omega)⟩
      · -- behind the loop
        obtain rfl : i = 8 := by omega
        refine sq ?_
        refine sq ?_
        refine cz [(0, v0), (13, v13), (20, .int .i64 8)] ⟨rfl, rfl, rfl, trivial⟩ (fun _ => ?_)
        refine rp [0, 0] ?_
        refine k0 (wt_none rfl _) rfl (.int .i64 8) (fun _ _ => exec_move (.tmp 20) (.inl rfl) _ rfl) ?_
        refine k0 (wt_none rfl _) rfl (.bool false) (fun _ _ => x_lss_f (.tmp 210) (.const (.int .i64 8)) _ _ rfl 8 8 .i64 (by omega) rfl rfl) ?_
        refine kend ?_
        refine th_n ?_
        refine cdf rfl ?_
        refine ex ?_
        refine th_x ?_
        refine th_x ?_
        refine ib_x ?_
        refine th_n ?_
        refine sq ?_
        refine cz [(0, v0), (13, v13), (20, .int .i64 8), (211, .bool false)] ⟨rfl, rfl, rfl, rfl, trivial⟩ (fun _ => ?_)
        refine rp [0, 0] ?_
        refine k0 (wt_none rfl _) rfl (v13) (fun _ _ => exec_move (.tmp 13) (.inl rfl) _ rfl) ?_
        refine k0 (wt_none rfl _) rfl (v13) (fun _ _ => exec_move (.tmp 226) (.inr rfl) _ rfl) ?_
        refine kend ?_
        refine th_n ?_
        refine re ?_
        refine rt1 rfl ?_
        have h : Mo w ww53 _ := mm52
        rw [adds_comm _ _ hn (hV 64)] at h
        exact ⟨v13, rfl, h⟩

end Go.Proofs.YtkgenageeiaacaaDoor
