/-
  Contracts of Parse: package hexes', and the document's.
-/
import Derived.Test.YtdoopjejihfpaaaH8
namespace Go.Proofs.Ytdoopjejihfpaaa
open Go.RowKit

theorem zeros_cells : (List.replicate 32 (Value.int .u8 0)) = cellsOf (List.replicate 32 0) := by simp [cellsOf]

set_option maxHeartbeats 1000000 in
theorem parse_long (w : World) (s : ByteArray) (hn : ¬ s.size = 64) :
    Calls Try.prog 13 #[.string s] w fun e w' => e = .returned (.tuple #[.agg (cellsOf (List.replicate 32 0)).toArray, .int .i64 3]) ∧ Below w.heap.size w w' := by
  have h2 : ((s.size : Int) != 64) = true := by simp; omega
  clear hn
  have z := zeros_cells
  have hz : (cellsOf (List.replicate 32 0)).length = 32 := by simp [cellsOf]
  go_enter Try.func13, Try.ntmps13
  go_wp2_with (first
    | (refine wpList_alloc_arr Try.at32 rfl rfl 2 rfl ?_; rw [z]; intro g2 w2 hg2 ha2 hb2)
    | (refine wpList_build_arr Try.at32 rfl rfl ?_; rw [z])
    | (refine wpList_store_arr Try.at32 rfl (.tmp 2) (.tmp 10) rfl rfl g2 _ (cellsOf (List.replicate 32 0)) hz hz (cellsOf_one _) rfl rfl ha2 ?_; intro w4 ha4 hb4))
  refine bodyPost_ret (results_arr_tmp Try.at32 rfl _ _ g2 _ hz rfl ha4) rfl ⟨rfl, Below.trans hb2 (hb4.below hg2)⟩

set_option maxHeartbeats 1000000 in
theorem parse_no (w : World) (s : ByteArray) (hs : s.size = 64) (hn : okS (bl s) = false) :
    Calls Try.prog 13 #[.string s] w fun e w' => e = .returned (.tuple #[.agg (cellsOf (List.replicate 32 0)).toArray, .int .i64 3]) ∧ Below w.heap.size w w' := by
  have h2 : ((s.size : Int) != 64) = false := by simp; omega
  have hs' : s.size ≤ 1000000 := by omega
  clear hs
  have z := zeros_cells
  have hz : (cellsOf (List.replicate 32 0)).length = 32 := by simp [cellsOf]
  obtain ⟨l1, l2⟩ := dec_no _ hn
  go_enter Try.func13, Try.ntmps13
  go_wp2_with (first
    | (refine wpList_alloc_arr Try.at32 rfl rfl 2 rfl ?_; rw [z]; intro g2 w2 hg2 ha2 hb2)
    | (go_at_call 11; refine (decode_any _ s hs').mono ?_; rw [l1, l2]; rintro e w3 ⟨v3, rfl, ho3, hb3⟩)
    | (refine wpList_build_arr Try.at32 rfl rfl ?_; rw [z])
    | (refine wpList_store_arr Try.at32 rfl (.tmp 2) (.tmp 18) rfl rfl g2 _ (cellsOf (List.replicate 32 0)) hz hz (cellsOf_one _) rfl rfl (ha2.gr hb3) ?_; intro w4 ha4 hb4))
  refine bodyPost_ret (results_arr_tmp Try.at32 rfl _ _ g2 _ hz rfl ha4) rfl ⟨rfl, Below.trans (Gr.trans hb2 hb3) (hb4.below hg2)⟩

set_option maxHeartbeats 1000000 in
theorem parse_ok (w : World) (s : ByteArray) (hs : s.size = 64) (hn : okS (bl s) = true) :
    Calls Try.prog 13 #[.string s] w fun e w' => e = .returned (.tuple #[.agg (cellsOf (decB (bl s)).reverse).toArray, .int .i64 0]) ∧ Below w.heap.size w w' := by
  have h2 : ((s.size : Int) != 64) = false := by simp; omega
  have hs' : s.size ≤ 1000000 := by omega
  have hdl : (decB (bl s)).length = 32 := by rw [decB_length, bl_length, hs]
  clear hs
  have z := zeros_cells
  have hz : (cellsOf (List.replicate 32 0)).length = 32 := by simp [cellsOf]
  have hdc : (cellsOf (decB (bl s))).length = 32 := by rw [cellsOf_length]; exact hdl
  have hdr : (cellsOf (decB (bl s)).reverse).length = 32 := by rw [cellsOf_length, List.length_reverse]; exact hdl
  obtain ⟨l1, l2⟩ := dec_ok _ hn
  go_enter Try.func13, Try.ntmps13
  go_wp2_with (first
    | (refine wpList_alloc_arr Try.at32 rfl rfl 2 rfl ?_; rw [z]; intro g2 w2 hg2 ha2 hb2)
    | (go_at_call 11; refine (decode_any _ s hs').mono ?_; rw [l1, l2]; rintro e w3 ⟨v3, rfl, ho3, hb3⟩)
    | (refine wpList_alloc_arr Try.at32 rfl rfl 6 rfl ?_; rw [z]; intro g4 w4 hg4 ha4 hb4)
    | (refine wpList_slice_arr Try.at32 rfl (.tmp 6) rfl g4 rfl ?_)
    | (refine wpList_copy_arr rfl (.tmp 20) (.tmp 21) Try.bt 22 rfl g4 32 32 _ v3 (List.replicate 32 0) (decB (bl s)) (by simp) hdl (by omega) rfl rfl (ho3.keep hb4).rd _ ha4 ?_; intro w5 ha5 hb5)
    | (refine wpList_load_arr Try.at32 rfl (.tmp 6) rfl g4 _ hdc rfl ha5 ?_)
    | (go_at_call 19; refine (turned_any _ (decB (bl s)) hdl).mono ?_; rintro e w6 ⟨rfl, hb6⟩)
    | (refine wpList_store_arr Try.at32 rfl (.tmp 2) (.tmp 24) rfl rfl g2 _ (cellsOf (decB (bl s)).reverse) hz hdr (cellsOf_one _) rfl rfl ((((ha2.gr hb3).gr hb4).but hb5 (by have := (ha2.gr hb3).lt; omega)).gr hb6) ?_; intro w7 ha7 hb7))
  have hg4' : w.heap.size ≤ g4 := by have := hb2.size; have := hb3.size; omega
  have hw : Below w.heap.size w w6 := Gr.trans (Below.trans (Gr.trans (Gr.trans hb2 hb3) hb4) (hb5.below hg4')) hb6
  refine bodyPost_ret (results_arr_tmp Try.at32 rfl _ _ g2 _ hdr rfl ha7) rfl ⟨rfl, Below.trans hw (hb7.below hg2)⟩

theorem parse_any (w : World) (s : ByteArray) :
    Calls Try.prog 13 #[.string s] w fun e w' => e = .returned (.tuple #[.agg (cellsOf (parR (bl s))).toArray, .int .i64 (parE (bl s))]) ∧ Below w.heap.size w w' := by
  by_cases h : s.size = 64
  · cases hn : okS (bl s) with
    | true =>
      obtain ⟨e1, e2⟩ := par_ok (bl s) (by rw [bl_length]; exact h) hn
      rw [e1, e2]; exact parse_ok w s h hn
    | false =>
      obtain ⟨e1, e2⟩ := par_no (bl s) (.inr hn)
      rw [e1, e2]; exact parse_no w s h hn
  · obtain ⟨e1, e2⟩ := par_no (bl s) (.inl (by rw [bl_length]; exact h))
    rw [e1, e2]; exact parse_long w s h

set_option maxHeartbeats 1000000 in
theorem refParse_no (w : World) (s : ByteArray) (hs : s.size ≤ 1000000) (hn : okS (bl s) = false) :
    Calls Try.prog 14 #[.string s] w fun e w' => e = .returned (.tuple #[.agg (cellsOf (List.replicate 32 0)).toArray, .int .i64 3]) ∧ Below w.heap.size w w' := by
  have z := zeros_cells
  have hz : (cellsOf (List.replicate 32 0)).length = 32 := by simp [cellsOf]
  obtain ⟨l1, l2⟩ := dec_no _ hn
  go_enter Try.func14, Try.ntmps14
  go_wp2_with (first
    | (refine wpList_alloc_arr Try.at32 rfl rfl 2 rfl ?_; rw [z]; intro g2 w2 hg2 ha2 hb2)
    | (go_at_call 12; refine (refDecode_any _ s hs).mono ?_; rw [l1, l2]; rintro e w3 ⟨v3, rfl, ho3, hb3⟩)
    | (refine wpList_build_arr Try.at32 rfl rfl ?_; rw [z])
    | (refine wpList_store_arr Try.at32 rfl (.tmp 2) (.tmp 18) rfl rfl g2 _ (cellsOf (List.replicate 32 0)) hz hz (cellsOf_one _) rfl rfl (ha2.gr hb3) ?_; intro w4 ha4 hb4))
  refine bodyPost_ret (results_arr_tmp Try.at32 rfl _ _ g2 _ hz rfl ha4) rfl ⟨rfl, Below.trans (Gr.trans hb2 hb3) (hb4.below hg2)⟩

set_option maxHeartbeats 1000000 in
theorem refParse_long (w : World) (s : ByteArray) (hs : s.size ≤ 1000000) (hl : ¬ s.size = 64) (hn : okS (bl s) = true) :
    Calls Try.prog 14 #[.string s] w fun e w' => e = .returned (.tuple #[.agg (cellsOf (List.replicate 32 0)).toArray, .int .i64 3]) ∧ Below w.heap.size w w' := by
  have z := zeros_cells
  have hz : (cellsOf (List.replicate 32 0)).length = 32 := by simp [cellsOf]
  obtain ⟨l1, l2⟩ := dec_ok _ hn
  have hdl : (((decB (bl s)).length : Int) != 32) = true := by have := even_of s hn; rw [decB_length, bl_length]; simp; omega
  go_enter Try.func14, Try.ntmps14
  go_wp2_with (first
    | (refine wpList_alloc_arr Try.at32 rfl rfl 2 rfl ?_; rw [z]; intro g2 w2 hg2 ha2 hb2)
    | (go_at_call 12; refine (refDecode_any _ s hs).mono ?_; rw [l1, l2]; rintro e w3 ⟨v3, rfl, ho3, hb3⟩; obtain ⟨ao3, cap3, rfl⟩ := ho3.rd.len)
    | (refine wpList_build_arr Try.at32 rfl rfl ?_; rw [z])
    | (refine wpList_store_arr Try.at32 rfl (.tmp 2) (.tmp 18) rfl rfl g2 _ (cellsOf (List.replicate 32 0)) hz hz (cellsOf_one _) rfl rfl (ha2.gr hb3) ?_; intro w4 ha4 hb4))
  refine bodyPost_ret (results_arr_tmp Try.at32 rfl _ _ g2 _ hz rfl ha4) rfl ⟨rfl, Below.trans (Gr.trans hb2 hb3) (hb4.below hg2)⟩

set_option maxHeartbeats 1000000 in
theorem refParse_ok (w : World) (s : ByteArray) (hl : s.size = 64) (hn : okS (bl s) = true) :
    Calls Try.prog 14 #[.string s] w fun e w' => e = .returned (.tuple #[.agg (cellsOf (decB (bl s)).reverse).toArray, .int .i64 0]) ∧ Below w.heap.size w w' := by
  have z := zeros_cells
  have hz : (cellsOf (List.replicate 32 0)).length = 32 := by simp [cellsOf]
  obtain ⟨l1, l2⟩ := dec_ok _ hn
  have hs' : s.size ≤ 1000000 := by omega
  have hdl : (decB (bl s)).length = 32 := by rw [decB_length, bl_length, hl]
  have HDL : Hid ((decB (bl s)).length = 32) := hdl
  have hd2 : (((decB (bl s)).length : Int) != 32) = false := by simp; omega
  have hdr : (cellsOf (decB (bl s)).reverse).length = 32 := by rw [cellsOf_length, List.length_reverse]; exact hdl
  clear hl hdl
  go_enter Try.func14, Try.ntmps14
  go_wp2_with (first
    | (refine wpList_alloc_arr Try.at32 rfl rfl 2 rfl ?_; rw [z]; intro g2 w2 hg2 ha2 hb2)
    | (go_at_call 12; refine (refDecode_any _ s hs').mono ?_; rw [l1, l2]; rintro e w3 ⟨v3, rfl, ho3, hb3⟩; have HO3 : Hid (Own 5 w2.heap.size w3 v3 (decB (bl s))) := ho3; obtain ⟨ao3, cap3, rfl⟩ := ho3.rd.len; clear ho3)
    | (go_at_call 21; refine (refTurned_any _ _ _ _ HO3.out.rd (by have := HDL.out; omega)).mono ?_; rintro e w4 ⟨v4, rfl, ho4, hb4⟩)
    | (go_at_call 20; refine (refHash_any _ _ _ _ ho4.rd (by rw [List.length_reverse]; exact HDL.out)).mono ?_; rintro e w5 ⟨rfl, hb5⟩)
    | (refine wpList_store_arr Try.at32 rfl (.tmp 2) (.tmp 21) rfl rfl g2 _ (cellsOf (decB (bl s)).reverse) hz hdr (cellsOf_one _) rfl rfl (((ha2.gr hb3).gr hb4).gr hb5) ?_; intro w6 ha6 hb6))
  refine bodyPost_ret (results_arr_tmp Try.at32 rfl _ _ g2 _ hdr rfl ha6) rfl ⟨rfl, Below.trans (Gr.trans (Gr.trans (Gr.trans hb2 hb3) hb4) hb5) (hb6.below hg2)⟩

theorem refParse_any (w : World) (s : ByteArray) (hs : s.size ≤ 1000000) :
    Calls Try.prog 14 #[.string s] w fun e w' => e = .returned (.tuple #[.agg (cellsOf (parR (bl s))).toArray, .int .i64 (parE (bl s))]) ∧ Below w.heap.size w w' := by
  cases hn : okS (bl s) with
  | false =>
    obtain ⟨e1, e2⟩ := par_no (bl s) (.inr hn)
    rw [e1, e2]; exact refParse_no w s hs hn
  | true =>
    by_cases h : s.size = 64
    · obtain ⟨e1, e2⟩ := par_ok (bl s) (by rw [bl_length]; exact h) hn
      rw [e1, e2]; exact refParse_ok w s h hn
    · obtain ⟨e1, e2⟩ := par_no (bl s) (.inl (by rw [bl_length]; exact h))
      rw [e1, e2]; exact refParse_long w s hs h hn
end Go.Proofs.Ytdoopjejihfpaaa
