/-
  Contracts of names: package hexes', and the document's.
-/
import Derived.Test.YtdoopjejihfpaaaH6
namespace Go.Proofs.Ytdoopjejihfpaaa
open Go.RowKit

/-- The array, k of its 32 bytes turned. -/
def turn (l : List UInt8) (k : Nat) : List UInt8 := List.replicate (32 - k) 0 ++ (l.take k).reverse
theorem turn_length (l : List UInt8) (k : Nat) (hl : l.length = 32) (hk : k ≤ 32) : (turn l k).length = 32 := by simp [turn, hl]; omega
theorem turn_zero (l : List UInt8) : turn l 0 = List.replicate 32 0 := by simp [turn]
theorem turn_succ (l : List UInt8) (k : Nat) (hl : l.length = 32) (hk : k < 32) : ∃ c, l[k]? = some c ∧ Hid ((turn l k).set (31 - k) c = turn l (k + 1)) := by
  refine ⟨l[k], by simp [hl, hk], ?_⟩
  show _ = _
  unfold turn
  rw [List.set_append_left _ _ (by simp; omega), List.take_succ_eq_append_getElem (by omega), List.reverse_append]
  have e : 32 - k = (31 - k) + 1 := by omega
  rw [e, List.replicate_succ', List.set_append_right _ _ (by simp)]
  simp
theorem turn_end (l : List UInt8) (hl : l.length = 32) : turn l 32 = l.reverse := by
  simp [turn, List.take_of_length_le (by omega : l.length ≤ 32)]

set_option maxHeartbeats 1000000 in
theorem turned_any (w : World) (l : List UInt8) (hl : l.length = 32) :
    Calls Try.prog 19 #[.agg (cellsOf l).toArray] w fun e w' => e = .returned (.agg (cellsOf l.reverse).toArray) ∧ Below w.heap.size w w' := by
  have HL : Hid (l.length = 32) := hl
  have hcl : (cellsOf l).length = 32 := by simp [cellsOf, hl]
  clear hl
  go_enter Try.func19, Try.ntmps19
  go_wp2_with (first
    | (refine wpList_box_arr rfl _ _ rfl (cellsOf l) rfl ?_; intro g1 w1 hg1 ha1 hb1)
    | (refine wpList_alloc_arr Try.at32 rfl rfl 2 rfl ?_; intro g2 w2 hg2 ha2 hb2)
    | (refine wpList_alloc_arr Try.at32 rfl rfl 3 rfl ?_; intro g3 w3 hg3 ha3 hb3)
    | (refine wpList_load_arr Try.at32 rfl (.tmp 1) rfl g1 (cellsOf l) hcl rfl ((ha1.gr hb2).gr hb3) ?_))
  have hne : g2 ≠ g3 := by have := ha2.lt; omega
  have hbB : Below w.heap.size w w3 := (Gr.trans (Gr.trans hb1 hb2) hb3)
  have hg3' : w.heap.size ≤ g3 := by have := hb1.size; have := hb2.size; omega
  have hg2' : w.heap.size ≤ g2 := by have := hb1.size; omega
  have ha2' := ha2.gr hb3
  have ha3' : Arr 30 w3 g3 (cellsOf (turn l 0)) := by rw [turn_zero]; exact ha3
  clear ha1 ha2 ha3 hb1 hb2 hb3 hg1 hg2 hg3
  go_loopw [7] (fun i wr => ∃ k : Nat, k ≤ 32 ∧ i = .int .i64 k ∧ Arr 30 wr g3 (cellsOf (turn l k)) ∧ Arr 30 wr g2 (List.replicate 32 (.int .u8 0)) ∧ Below w.heap.size w wr) (fun i _ => 32 - (intOf i).toNat)
  case atStart => exact ⟨0, by omega, rfl, ha3', ha2', hbB⟩
  case round =>
    obtain ⟨k, hk, rfl, hr3, hr2, hb⟩ := hrel
    clear ha2' ha3' hbB
    have htl := turn_length l k HL.out hk
    have hct : (cellsOf (turn l k)).length = 32 := by rw [cellsOf_length]; exact htl
    by_cases hlt : k < 32
    · obtain ⟨c, hc, HTS⟩ := turn_succ l k HL.out hlt
      go_wp2_with (first
        | (refine wpList_index_byte Try.at32 rfl (.tmp 6) (.tmp 7) rfl l k .i64 c HL.out hc rfl (k : Int) rfl rfl ?_)
        | (refine wpList_indexAt_arr Try.at32 rfl (.tmp 3) (.tmp 12) rfl g3 (31 - k) .i64 (31 - (k : Int)) (by omega) (by omega) rfl rfl ?_)
        | (refine wpList_store_byte rfl 5 (.tmp 14) (.tmp 13) rfl rfl (by kernel_rfl) g3 (31 - k) (turn l k) _ c HTS.out (by omega) rfl rfl _ hr3 ?_; intro w4 hr4 hb4))
      go_roundw
      case rel => exact ⟨k + 1, by omega, by go_num, hr4, hr2.but hb4 hne, hb.trans (hb4.below hg3')⟩
      case measure => simp [intOf]; omega
    · obtain rfl : k = 32 := by omega
      have HTE : Hid (turn l 32 = l.reverse) := turn_end l HL.out
      go_wp2_with (first
        | (refine wpList_load_arr Try.at32 rfl (.tmp 3) rfl g3 (cellsOf (turn l 32)) hct rfl hr3 ?_)
        | (refine wpList_store_arr Try.at32 rfl (.tmp 2) (.tmp 16) rfl rfl g2 (List.replicate 32 (.int .u8 0)) (cellsOf (turn l 32)) (by simp) hct (cellsOf_one _) rfl rfl hr2 ?_; intro w4 hr4 hb4))
      refine bodyPost_ret (results_arr Try.at32 rfl _ _ g2 _ hct rfl hr4) rfl ⟨?_, hb.trans (hb4.below hg2')⟩
      rw [HTE.out]
end Go.Proofs.Ytdoopjejihfpaaa
