/-
  Contracts of the document's Padded and its numbers.
-/
import Derived.Test.YtkgenageeiaacaaDoorX2
import Derived.Test.YtkgenageeiaacaaDoorS1
namespace Go.Proofs.YtkgenageeiaacaaDoor
open Go.RowKit
theorem Tryd.sb : ST Tryd.prog 22 5 1 1 (.int .u8 0) := ⟨by kernel_rfl, by kernel_rfl, rfl, by decide, by decide⟩
theorem Tryd.sn : ST Tryd.prog 39 38 1 4 (.int .u32 0) := ⟨by kernel_rfl, by kernel_rfl, rfl, by decide, by decide⟩
/-- The first so many of the eight bytes of the count. -/
def b8 (n i : Nat) : List UInt8 := (List.range i).map (by8 n)
theorem b8_length (n i : Nat) : (b8 n i).length = i := by simp [b8]
theorem b8_succ (n i : Nat) : b8 n (i + 1) = b8 n i ++ [by8 n i] := by simp [b8, List.range_succ]
theorem b8_all (n : Nat) : b8 n 8 = bits8 n := rfl
theorem rep_succ (k : Nat) : List.replicate (k + 1) (0 : UInt8) = List.replicate k 0 ++ [0] := List.replicate_succ'

set_option maxHeartbeats 1000000 in
theorem padded_doc (B : Nat) (v : Value) (b : List UInt8) (w : World) (hr : Rd B w v b) (hN : b.length ≤ 900000) :
    Calls Tryd.prog 23 #[v] w fun e w' => ∃ v', e = .returned v' ∧ Mo w w' [.own 5 1 v' (pad b).length (cellsOf (pad b))] := by
  have hv : Rc w.heap.size w v b.length (cellsOf b) := hr.self.rc
  obtain ⟨n, hn⟩ : ∃ n, b.length = n := ⟨_, rfl⟩
  rw [hn] at hv hN
  have hz := nz_lt n
  have hz2 : (n + 1 + nz n) % 64 = 56 := by unfold nz; omega
  have hz3 : ∀ j, j ≤ nz n → (n + 1 + j) % 64 = 56 → j = nz n := fun j h1 h2 => by unfold nz at h1 ⊢; omega
  have hpad : pad b = b ++ [128] ++ List.replicate (nz n) 0 ++ bits8 n := by unfold pad tailL; rw [hn]; simp
  have hlen : (pad b).length = n + 1 + nz n + 8 := by rw [hpad]; simp [hn, bits8]; omega
  generalize nz n = q at *
  have m0 := Mo.start w
  refine enter [v] 38 Tryd.func23 rfl Tryd.ntmps23 (Nat.le_of_ble_eq_true rfl) ?_
  refine sq ?_
  refine cz [(0, v)] ⟨rfl, trivial⟩ (fun _ => ?_)
  refine rp [0] ?_
  refine k0 (wt_none rfl _) rfl (.slice none 0 0) (fun _ _ => exec_move (.const (.slice none 0 0)) (.inr rfl) _ rfl) ?_
  refine kend ?_
  refine th_n ?_
  refine sq ?_
  refine cz [(0, v), (2, .slice none 0 0)] ⟨rfl, rfl, trivial⟩ (fun _ => ?_)
  refine rp [2, 0, 2, 0] ?_
  refine k2 (wt_none rfl _) rfl (x_bld Tryd.sb 0 _ rfl m0 [] [] rfl (by decide) (fun _ h => absurd h List.not_mem_nil) rfl rfl) ?_
  rintro vv1 ww2 mm3
  refine ⟨trivial, ?_⟩
  refine k0 (wt_none rfl _) rfl (v) (fun _ _ => exec_move (.tmp 0) (.inl rfl) _ rfl) ?_
  refine k2 (wt_none rfl _) rfl (x_app Tryd.sb (.tmp 6) (.tmp 7) rfl mm3 0 rfl rfl (Rc.at hv mm3) (by simp only [cellsOf_length, Nat.mul_one]; try omega) (cellsOf_one _) (by omega) rfl) ?_
  rintro vv4 ww5 mm6
  have mm7 : Mo w ww5 [.own 5 1 vv4 n (cellsOf b)] := (by have h := mm6; rw [List.nil_append, Nat.zero_add] at h; exact h)
  refine ⟨trivial, ?_⟩
  refine k0 (wt_none rfl _) rfl (vv4) (fun _ _ => exec_move (.tmp 8) (.inr rfl) _ rfl) ?_
  refine kend ?_
  refine th_n ?_
  refine sq ?_
  refine cz [(0, v), (2, .slice none 0 0), (3, vv4)] ⟨rfl, rfl, rfl, trivial⟩ (fun _ => ?_)
  refine rp [0, 2, 2, 0] ?_
  refine k0 (wt_none rfl _) rfl (vv4) (fun _ _ => exec_move (.tmp 3) (.inl rfl) _ rfl) ?_
  refine k2 (wt_none rfl _) rfl (x_bld Tryd.sb 1 _ rfl mm7 (cellsOf [128]) (cellsOf [128]) rfl (by decide) (one_size (cells_oc8 _)) (one_flat (cells_oc8 _)) rfl) ?_
  rintro vv8 ww9 mm10
  refine ⟨trivial, ?_⟩
  refine k2 (wt_none rfl _) rfl (x_app Tryd.sb (.tmp 9) (.tmp 10) rfl mm10 1 rfl rfl (mm10.rc 0 rfl) rfl (cellsOf_one _) (by omega) rfl) ?_
  rintro vv11 ww12 mm13
  have mm14 : Mo w ww12 [.own 5 1 vv8 1 (cellsOf ([128])), .own 5 1 vv11 (n + 1) (cellsOf (b ++ ([128])))] := (by have h := mm13; rw [← cellsOf_append] at h; exact h)
  refine ⟨trivial, ?_⟩
  refine k0 (wt_none rfl _) rfl (vv11) (fun _ _ => exec_move (.tmp 11) (.inr rfl) _ rfl) ?_
  refine kend ?_
  refine th_n ?_
  refine sq ?_
  refine bk ?_
  have mm15 : Mo w ww12 [.own 5 1 vv8 1 (cellsOf ([128])), .own 5 1 vv11 (n + 1) (cellsOf (b ++ [128] ++ List.replicate 0 0))] := (by have h := mm14; rw [show cellsOf (b ++ ([128])) = cellsOf (b ++ [128] ++ List.replicate 0 0) from (by simp)] at h; exact h)
  refine lp (fun (x : Nat × Value) => [(0, v), (3, x.2)]) (fun (x : Nat × Value) w1 => x.1 ≤ q ∧ Mo w w1 [.own 5 1 x.2 (n + 1 + x.1) (cellsOf (b ++ [128] ++ List.replicate x.1 0))]) (fun (x : Nat × Value) => q - x.1) (⟨0, vv11⟩) ⟨rfl, rfl, trivial⟩ ⟨(show 0 ≤ q from (Nat.zero_le _)), (show Mo w ww12 [.own 5 1 vv11 (n + 1 + 0) (cellsOf (b ++ [128] ++ List.replicate 0 0))] from mm15.pick [1] (by decide) ⟨rfl, trivial⟩)⟩ ?_
  rintro ⟨j, v3⟩ _ ww17 ⟨hh18, mm16⟩
  replace hh18 : j ≤ q := hh18
  replace mm16 : Mo w ww17 [.own 5 1 v3 (n + 1 + j) (cellsOf (b ++ [128] ++ List.replicate j 0))] := mm16
  refine cz [(0, v), (3, v3)] ⟨rfl, rfl, trivial⟩ (fun _ => ?_)
  by_cases hm : ¬ (n + 1 + j) % 64 = 56
  · -- round
    have hjq : j < q := Nat.lt_of_le_of_ne hh18 (fun e => hm (by rw [e]; exact hz2))
    refine sq ?_
    refine sq ?_
    refine cz [(0, v), (3, v3)] ⟨rfl, rfl, trivial⟩ (fun _ => ?_)
    refine rp [0, 1, 0, 0] ?_
    refine k0 (wt_none rfl _) rfl (v3) (fun _ _ => exec_move (.tmp 3) (.inl rfl) _ rfl) ?_
    refine k1 (wt_none rfl _) rfl (.int .i64 ((n + 1 + j : Nat) : Int)) (x_len Tryd.sb.sl (.tmp 12) rfl (mm16.rc 0 rfl) rfl) ?_
    refine k0 (wt_none rfl _) rfl (.int .i64 (((n + 1 + j) % 64 : Nat) : Int)) (fun _ _ => x_rem (.tmp 13) (.const (.int .i64 64)) _ _ rfl (n + 1 + j) 64 ((n + 1 + j) % 64) .i64 (by exact ⟨rfl, by omega⟩) rfl rfl) ?_
    refine k0 (wt_none rfl _) rfl (.bool true) (fun _ _ => x_neq_t (.tmp 14) (.const (.int .i64 56)) _ _ rfl ((n + 1 + j) % 64) 56 .i64 (by omega) rfl rfl) ?_
    refine kend ?_
    refine th_n ?_
    refine cdt rfl ?_
    refine sk ?_
    refine th_n ?_
    refine bk ?_
    refine cz [(0, v), (3, v3), (15, .bool true)] ⟨rfl, rfl, rfl, trivial⟩ (fun _ => ?_)
    refine rp [0, 2, 2, 0] ?_
    refine k0 (wt_none rfl _) rfl (v3) (fun _ _ => exec_move (.tmp 3) (.inl rfl) _ rfl) ?_
    refine k2 (wt_none rfl _) rfl (x_bld Tryd.sb 1 _ rfl mm16 (cellsOf [0]) (cellsOf [0]) rfl (by decide) (one_size (cells_oc8 _)) (one_flat (cells_oc8 _)) rfl) ?_
    rintro vv19 ww20 mm21
    refine ⟨trivial, ?_⟩
    refine k2 (wt_none rfl _) rfl (x_app Tryd.sb (.tmp 16) (.tmp 17) rfl mm21 1 rfl rfl (mm21.rc 0 rfl) rfl (cellsOf_one _) (by omega) rfl) ?_
    rintro vv22 ww23 mm24
    have mm25 : Mo w ww23 [.own 5 1 vv19 1 (cellsOf ([0])), .own 5 1 vv22 ((n + 1 + j) + 1) (cellsOf (b ++ [128] ++ List.replicate (j + 1) 0))] := (by have h := mm24; rw [← cellsOf_append, (show (b ++ [128] ++ List.replicate j 0) ++ ([0]) = b ++ [128] ++ List.replicate (j + 1) 0 by rw [rep_succ, ← List.append_assoc])] at h; exact h)
    refine ⟨trivial, ?_⟩
    refine k0 (wt_none rfl _) rfl (vv22) (fun _ _ => exec_move (.tmp 18) (.inr rfl) _ rfl) ?_
    refine kend ?_
    refine ib_n ?_
    refine th_n ?_
    exact ⟨_, (⟨j + 1, vv22⟩ : Nat × Value), rfl, ⟨rfl, rfl, trivial⟩, ⟨(show (j + 1) ≤ q from hjq), (show Mo w ww23 [.own 5 1 vv22 (n + 1 + (j + 1)) (cellsOf (b ++ [128] ++ List.replicate (j + 1) 0))] from mm25.pick [1] (by decide) ⟨rfl, trivial⟩)⟩, (show q - (j + 1) < q - j by omega)⟩
  · -- behind the loop
    obtain rfl : q = j := (hz3 j hh18 (by omega)).symm
    refine sq ?_
    refine sq ?_
    refine cz [(0, v), (3, v3)] ⟨rfl, rfl, trivial⟩ (fun _ => ?_)
    refine rp [0, 1, 0, 0] ?_
    refine k0 (wt_none rfl _) rfl (v3) (fun _ _ => exec_move (.tmp 3) (.inl rfl) _ rfl) ?_
    refine k1 (wt_none rfl _) rfl (.int .i64 ((n + 1 + q : Nat) : Int)) (x_len Tryd.sb.sl (.tmp 12) rfl (mm16.rc 0 rfl) rfl) ?_
    refine k0 (wt_none rfl _) rfl (.int .i64 (((n + 1 + q) % 64 : Nat) : Int)) (fun _ _ => x_rem (.tmp 13) (.const (.int .i64 64)) _ _ rfl (n + 1 + q) 64 ((n + 1 + q) % 64) .i64 (by exact ⟨rfl, by omega⟩) rfl rfl) ?_
    refine k0 (wt_none rfl _) rfl (.bool false) (fun _ _ => x_neq_f (.tmp 14) (.const (.int .i64 56)) _ _ rfl ((n + 1 + q) % 64) 56 .i64 (by omega) rfl rfl) ?_
    refine kend ?_
    refine th_n ?_
    refine cdf rfl ?_
    refine ex ?_
    refine th_x ?_
    refine th_x ?_
    refine ib_x ?_
    refine th_n ?_
    refine sq ?_
    refine cz [(0, v), (3, v3), (15, .bool false)] ⟨rfl, rfl, rfl, trivial⟩ (fun _ => ?_)
    refine rp [0, 1, 0, 0, 0] ?_
    refine k0 (wt_none rfl _) rfl (v) (fun _ _ => exec_move (.tmp 0) (.inl rfl) _ rfl) ?_
    refine k1 (wt_none rfl _) rfl (.int .i64 ((n : Nat) : Int)) (x_len Tryd.sb.sl (.tmp 19) rfl (Rc.at hv mm16) rfl) ?_
    refine k0 (wt_none rfl _) rfl (.int .u64 ((n : Nat) : Int)) (fun _ _ => exec_conv Tryd.i64 Tryd.u64' (.tmp 20) rfl ((n : Nat) : Int) ((n : Nat) : Int) (wrapN .u64 n (show _ < 18446744073709551616 by omega)) rfl) ?_
    refine k0 (wt_none rfl _) rfl (.int .u64 ((n * 8 : Nat) : Int)) (fun _ _ => x_mul (.tmp 21) (.const (.int .u64 8)) _ _ rfl n 8 (n * 8) .u64 (by exact ⟨by omega, (show _ < 18446744073709551616 by omega)⟩) rfl rfl) ?_
    refine k0 (wt_none rfl _) rfl (.int .u64 ((n * 8 : Nat) : Int)) (fun _ _ => exec_move (.tmp 22) (.inr rfl) _ rfl) ?_
    refine kend ?_
    refine th_n ?_
    refine sq ?_
    refine sq ?_
    refine cz [(0, v), (3, v3), (4, .int .u64 ((n * 8 : Nat) : Int)), (15, .bool false)] ⟨rfl, rfl, rfl, rfl, trivial⟩ (fun _ => ?_)
    refine rp [0] ?_
    refine k0 (wt_none rfl _) rfl (.int .i64 0) (fun _ _ => exec_move (.const (.int .i64 0)) (.inr rfl) _ rfl) ?_
    refine kend ?_
    refine th_n ?_
    refine bk ?_
    have mm26 : Mo w ww17 [.own 5 1 v3 (n + 1 + q) (cellsOf (b ++ [128] ++ List.replicate q 0 ++ b8 n 0))] := (by have h := mm16; rw [show cellsOf (b ++ [128] ++ List.replicate q 0) = cellsOf (b ++ [128] ++ List.replicate q 0 ++ b8 n 0) from (by rw [show b8 n 0 = [] from rfl, List.append_nil])] at h; exact h)
    refine lp (fun (x : Nat × Value) => [(0, v), (3, x.2), (4, .int .u64 ((n * 8 : Nat) : Int)), (5, .int .i64 ((x.1 : Nat) : Int))]) (fun (x : Nat × Value) w1 => x.1 ≤ 8 ∧ Mo w w1 [.own 5 1 x.2 (n + 1 + q + x.1) (cellsOf (b ++ [128] ++ List.replicate q 0 ++ b8 n x.1))]) (fun (x : Nat × Value) => 8 - x.1) (⟨0, v3⟩) ⟨rfl, rfl, rfl, rfl, trivial⟩ ⟨(show 0 ≤ 8 from (by omega)), (show Mo w ww17 [.own 5 1 v3 (n + 1 + q + 0) (cellsOf (b ++ [128] ++ List.replicate q 0 ++ b8 n 0))] from mm26)⟩ ?_
    rintro ⟨i, v3⟩ _ ww28 ⟨hh29, mm27⟩
    replace hh29 : i ≤ 8 := hh29
    replace mm27 : Mo w ww28 [.own 5 1 v3 (n + 1 + q + i) (cellsOf (b ++ [128] ++ List.replicate q 0 ++ b8 n i))] := mm27
    refine cz [(0, v), (3, v3), (4, .int .u64 ((n * 8 : Nat) : Int)), (5, .int .i64 ((i : Nat) : Int))] ⟨rfl, rfl, rfl, rfl, trivial⟩ (fun _ => ?_)
    by_cases hlt : i < 8
    · -- round
      refine sq ?_
      refine sq ?_
      refine cz [(0, v), (3, v3), (4, .int .u64 ((n * 8 : Nat) : Int)), (5, .int .i64 ((i : Nat) : Int))] ⟨rfl, rfl, rfl, rfl, trivial⟩ (fun _ => ?_)
      refine rp [0, 0] ?_
      refine k0 (wt_none rfl _) rfl (.int .i64 ((i : Nat) : Int)) (fun _ _ => exec_move (.tmp 5) (.inl rfl) _ rfl) ?_
      refine k0 (wt_none rfl _) rfl (.bool true) (fun _ _ => x_lss_t (.tmp 23) (.const (.int .i64 8)) _ _ rfl i 8 .i64 (by omega) rfl rfl) ?_
      refine kend ?_
      refine th_n ?_
      refine cdt rfl ?_
      refine sk ?_
      refine th_n ?_
      refine sq ?_
      refine bk ?_
      refine cz [(0, v), (3, v3), (4, .int .u64 ((n * 8 : Nat) : Int)), (5, .int .i64 ((i : Nat) : Int)), (24, .bool true)] ⟨rfl, rfl, rfl, rfl, rfl, trivial⟩ (fun _ => ?_)
      refine rp [0, 0, 0, 0, 0, 0, 0, 0, 2, 2, 0] ?_
      refine k0 (wt_none rfl _) rfl (v3) (fun _ _ => exec_move (.tmp 3) (.inl rfl) _ rfl) ?_
      refine k0 (wt_none rfl _) rfl (.int .u64 ((n * 8 : Nat) : Int)) (fun _ _ => exec_move (.tmp 4) (.inl rfl) _ rfl) ?_
      refine k0 (wt_none rfl _) rfl (.int .i64 ((i : Nat) : Int)) (fun _ _ => exec_move (.tmp 5) (.inl rfl) _ rfl) ?_
      refine k0 (wt_none rfl _) rfl (.int .i64 ((8 * i : Nat) : Int)) (fun _ _ => x_mul (.const (.int .i64 8)) (.tmp 29) _ _ rfl 8 i (8 * i) .i64 (by exact ⟨by omega, (show _ < 9223372036854775808 by omega)⟩) rfl rfl) ?_
      refine k0 (wt_none rfl _) rfl (.int .i64 ((56 - (8 * i) : Nat) : Int)) (fun _ _ => x_sub (.const (.int .i64 56)) (.tmp 30) _ _ rfl 56 (8 * i) (56 - (8 * i)) .i64 (by exact ⟨by omega, (show _ < 9223372036854775808 by omega)⟩) rfl rfl) ?_
      refine k0 (wt_none rfl _) rfl (.int .u64 ((56 - (8 * i) : Nat) : Int)) (fun _ _ => exec_conv Tryd.i64 Tryd.uint (.tmp 31) rfl ((56 - (8 * i) : Nat) : Int) ((56 - (8 * i) : Nat) : Int) (wrapN .u64 (56 - (8 * i)) (show _ < 18446744073709551616 by omega)) rfl) ?_
      refine k0 (wt_none rfl _) rfl (.int .u64 ((n * 8 / 2 ^ (56 - 8 * i) : Nat) : Int)) (fun _ _ => x_shr (.tmp 28) (.tmp 32) _ _ rfl (n * 8) (56 - (8 * i)) (n * 8 / 2 ^ (56 - 8 * i)) .u64 .u64 (by exact ⟨rfl, (show _ ≤ 64 by omega)⟩) rfl rfl) ?_
      refine k0 (wt_none rfl _) rfl (.int .u8 (((UInt8.ofNat (n * 8 / 2 ^ (56 - 8 * i))).toNat : Nat) : Int)) (fun _ _ => exec_conv Tryd.u64' Tryd.u8 (.tmp 33) rfl ((n * 8 / 2 ^ (56 - 8 * i) : Nat) : Int) (((UInt8.ofNat (n * 8 / 2 ^ (56 - 8 * i))).toNat : Nat) : Int) (wrapU8 (n * 8 / 2 ^ (56 - 8 * i))) rfl) ?_
      refine k2 (wt_none rfl _) rfl (x_bld Tryd.sb 1 _ rfl mm27 (cellsOf [UInt8.ofNat (n * 8 / 2 ^ (56 - 8 * i))]) (cellsOf [UInt8.ofNat (n * 8 / 2 ^ (56 - 8 * i))]) rfl (by decide) (one_size (cells_oc8 _)) (one_flat (cells_oc8 _)) rfl) ?_
      rintro vv30 ww31 mm32
      refine ⟨trivial, ?_⟩
      refine k2 (wt_none rfl _) rfl (x_app Tryd.sb (.tmp 27) (.tmp 35) rfl mm32 1 rfl rfl (mm32.rc 0 rfl) rfl (cellsOf_one _) (by omega) rfl) ?_
      rintro vv33 ww34 mm35
      have mm36 : Mo w ww34 [.own 5 1 vv30 1 (cellsOf ([UInt8.ofNat (n * 8 / 2 ^ (56 - 8 * i))])), .own 5 1 vv33 ((n + 1 + q + i) + 1) (cellsOf (b ++ [128] ++ List.replicate q 0 ++ b8 n (i + 1)))] := (by have h := mm35; rw [← cellsOf_append, (show (b ++ [128] ++ List.replicate q 0 ++ b8 n i) ++ ([UInt8.ofNat (n * 8 / 2 ^ (56 - 8 * i))]) = b ++ [128] ++ List.replicate q 0 ++ b8 n (i + 1) by rw [b8_succ, ← List.append_assoc]; unfold by8; rw [Nat.mod_eq_of_lt (by omega)])] at h; exact h)
      refine ⟨trivial, ?_⟩
      refine k0 (wt_none rfl _) rfl (vv33) (fun _ _ => exec_move (.tmp 36) (.inr rfl) _ rfl) ?_
      refine kend ?_
      refine ib_n ?_
      refine th_n ?_
      refine cz [(0, v), (3, vv33), (4, .int .u64 ((n * 8 : Nat) : Int)), (5, .int .i64 ((i : Nat) : Int)), (24, .bool true)] ⟨rfl, rfl, rfl, rfl, rfl, trivial⟩ (fun _ => ?_)
      refine rp [0, 0, 0] ?_
      refine k0 (wt_none rfl _) rfl (.int .i64 ((i : Nat) : Int)) (fun _ _ => exec_move (.tmp 5) (.inl rfl) _ rfl) ?_
      refine k0 (wt_none rfl _) rfl (.int .i64 ((i + 1 : Nat) : Int)) (fun _ _ => x_add (.tmp 25) (.const (.int .i64 1)) _ _ rfl i 1 (i + 1) .i64 (by exact ⟨by omega, (show _ < 9223372036854775808 by omega)⟩) rfl rfl) ?_
      refine k0 (wt_none rfl _) rfl (.int .i64 ((i + 1 : Nat) : Int)) (fun _ _ => exec_move (.tmp 26) (.inr rfl) _ rfl) ?_
      refine kend ?_
      refine th_n ?_
      exact ⟨_, (⟨i + 1, vv33⟩ : Nat × Value), rfl, ⟨rfl, rfl, rfl, rfl, trivial⟩, ⟨(show (i + 1) ≤ 8 from (by omega)), (show Mo w ww34 [.own 5 1 vv33 (n + 1 + q + (i + 1)) (cellsOf (b ++ [128] ++ List.replicate q 0 ++ b8 n (i + 1)))] from mm36.pick [1] (by decide) ⟨rfl, trivial⟩)⟩, (show 8 - (i + 1) < 8 - i by omega)⟩
    · -- behind the loop
      obtain rfl : i = 8 := by omega
      refine sq ?_
      refine sq ?_
      refine cz [(0, v), (3, v3), (4, .int .u64 ((n * 8 : Nat) : Int)), (5, .int .i64 8)] ⟨rfl, rfl, rfl, rfl, trivial⟩ (fun _ => ?_)
      refine rp [0, 0] ?_
      refine k0 (wt_none rfl _) rfl (.int .i64 8) (fun _ _ => exec_move (.tmp 5) (.inl rfl) _ rfl) ?_
      refine k0 (wt_none rfl _) rfl (.bool false) (fun _ _ => x_lss_f (.tmp 23) (.const (.int .i64 8)) _ _ rfl 8 8 .i64 (by omega) rfl rfl) ?_
      refine kend ?_
      refine th_n ?_
      refine cdf rfl ?_
      refine ex ?_
      refine th_x ?_
      refine th_x ?_
      refine ib_x ?_
      refine th_n ?_
      refine sq ?_
      refine cz [(0, v), (3, v3), (4, .int .u64 ((n * 8 : Nat) : Int)), (5, .int .i64 8), (24, .bool false)] ⟨rfl, rfl, rfl, rfl, rfl, trivial⟩ (fun _ => ?_)
      refine rp [0, 0] ?_
      refine k0 (wt_none rfl _) rfl (v3) (fun _ _ => exec_move (.tmp 3) (.inl rfl) _ rfl) ?_
      refine k0 (wt_none rfl _) rfl (v3) (fun _ _ => exec_move (.tmp 37) (.inr rfl) _ rfl) ?_
      refine kend ?_
      refine th_n ?_
      refine re ?_
      refine rt1 rfl ?_
      refine ⟨v3, rfl, ?_⟩
      have h : Mo w ww28 _ := mm27
      rw [hlen, hpad, ← b8_all]
      exact h

end Go.Proofs.YtkgenageeiaacaaDoor
