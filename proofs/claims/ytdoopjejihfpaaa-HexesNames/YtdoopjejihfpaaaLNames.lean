/-
  What the law HexesNames comes to: true, and nothing that was there has turned; for whatever name and text.
-/
import Derived.Test.YtdoopjejihfpaaaH9
namespace Go.Proofs.Ytdoopjejihfpaaa
open Go.RowKit

/-- What the callees of the law's last statement tell. -/
def nameWord (l : List UInt8) (f : FuncId) (_args : Array Value) (v : Value) (_w : World) : Prop :=
  (f = 8 ∧ v = .bool true) ∨ (f = 15 ∧ v = .string ⟨(enc l.reverse).toArray⟩) ∨ (f = 16 ∧ v = .string ⟨(enc l.reverse).toArray⟩)

theorem nameFit (w0 : World) (l : List UInt8) : Mild.Fit Gr (fun w => Gr w0 w) (nameWord l) where
  refl := Gr.refl
  trans := fun _ _ _ => Gr.trans
  inC := fun _ _ => Gr.trans
  keep := fun _ _ _ _ _ h _ => h

set_option maxHeartbeats 400000 in
theorem names_large (w : World) (l : List UInt8) (s : ByteArray) (hl : 300 < s.size) :
    Calls Try.prog 5 #[.agg (cellsOf l).toArray, .string s] w fun e w' => e = .returned (.bool true) ∧ Below w.heap.size w w' := by
  go_enter Try.func5, Try.ntmps5
  go_wp2_with (first
    | (refine wpList_box_arr rfl _ _ rfl (cellsOf l) rfl ?_; intro g1 w1 hg1 ha1 hb1)
    | (go_at_call 8; refine (alive_any _).mono ?_; rintro e w2 ⟨rfl, hb2⟩))
  go_ret
  exact ⟨rfl, Gr.trans hb1 hb2⟩

set_option maxRecDepth 100000 in
set_option maxHeartbeats 1000000 in
theorem names_small (w : World) (l : List UInt8) (s : ByteArray) (hl : l.length = 32) (hs : s.size ≤ 300) :
    Calls Try.prog 5 #[.agg (cellsOf l).toArray, .string s] w fun e w' => e = .returned (.bool true) ∧ Below w.heap.size w w' := by
  have z := zeros_cells
  have hz : (cellsOf (List.replicate 32 0)).length = 32 := by simp [cellsOf]
  have hp : (cellsOf (parR (bl s))).length = 32 := by rw [cellsOf_length]; exact parR_length _
  have hcl : (cellsOf l).length = 32 := by rw [cellsOf_length]; exact hl
  go_enter Try.func5, Try.ntmps5
  go_wp2_with (first
    | (refine wpList_box_arr rfl _ _ rfl (cellsOf l) rfl ?_; intro g1 w1 hg1 ha1 hb1)
    | (go_at_call 13; refine (parse_any _ s).mono ?_; rintro e w2 ⟨rfl, hb2⟩)
    | (refine wpList_alloc_arr Try.at32 rfl rfl 5 rfl ?_; rw [z]; intro g3 w3 hg3 ha3 hb3)
    | (refine wpList_store_arr Try.at32 rfl (.tmp 5) (.tmp 16) rfl rfl g3 _ (cellsOf (parR (bl s))) hz hp (cellsOf_one _) rfl rfl ha3 ?_; intro w4 ha4 hb4)
    | (go_at_call 14; refine (refParse_any _ s (by omega)).mono ?_; rintro e w5 ⟨rfl, hb5⟩)
    | (refine wpList_alloc_arr Try.at32 rfl rfl 7 rfl ?_; rw [z]; intro g6 w6 hg6 ha6 hb6)
    | (refine wpList_store_arr Try.at32 rfl (.tmp 7) (.tmp 21) rfl rfl g6 _ (cellsOf (parR (bl s))) hz hp (cellsOf_one _) rfl rfl ha6 ?_; intro w7 ha7 hb7))
  have n1 : g1 ≠ g3 := by have := (ha1.gr hb2).lt; omega
  have hw4 : Below w.heap.size w w4 := Below.trans (Gr.trans (Gr.trans hb1 hb2) hb3) (hb4.below (by have := hb1.size; have := hb2.size; omega))
  have a1 := ((ha1.gr hb2).gr hb3).but hb4 n1
  have n3 : g1 ≠ g6 := by have := (a1.gr hb5).lt; omega
  have n4 : g3 ≠ g6 := by have := (ha4.gr hb5).lt; omega
  have hw7 : Gr w w7 := Below.trans (Gr.trans (Gr.trans hw4 hb5) hb6) (hb7.below (by have := hw4.size; have := hb5.size; omega))
  have b1 : Hid (Arr 30 w7 g1 (cellsOf l)) := ((a1.gr hb5).gr hb6).but hb7 n3
  have b3 : Hid (Arr 30 w7 g3 (cellsOf (parR (bl s)))) := ((ha4.gr hb5).gr hb6).but hb7 n4
  have b6 : Hid (Arr 30 w7 g6 (cellsOf (parR (bl s)))) := ha7
  clear hb1 hb2 hb3 hb4 hb5 hb6 hb7 ha1 ha3 ha4 ha6 ha7 a1 n1 n3 n4 hw4 hg1 hg3 hg6 hz z
  have F := nameFit w7 l
  refine Mild.wp_region F (by kernel_rfl) (by kernel_rfl) (Below.drewN' _ _ 1) ?_
  refine Mild.step_call rfl 8 #[] ?run (fun v _ => v = .bool true) (fun v w w' _ h => h) (fun w _ _ => (alive_any w).mono fun e w' ⟨he, hb⟩ => ⟨_, he, hb, .inl ⟨rfl, rfl⟩⟩) ?hk ?_
  case run => intro w; go_simp
  case hk =>
    rintro v w' _ (⟨_, hv⟩ | ⟨hf, _⟩ | ⟨hf, _⟩)
    · exact hv
    · exact absurd hf (by decide)
    · exact absurd hf (by decide)
  intro v hv
  obtain ⟨_, _, rfl⟩ := hv (by simp)
  simp only [Act.put, List.setIfInBounds_toArray, List.set_cons_succ, List.set_cons_zero]
  refine Mild.step_quiet F rfl rfl rfl (fun w0 hC hF K hK => ?_); clear hF; go_big_quiet_op; refine hK _ ?_; clear hK K hC; clear w0
  refine Mild.step_known F rfl rfl (.agg (cellsOf l).toArray) (fun w0 hC _ => exec_load_arr Try.at32 _ rfl g1 _ hcl rfl (b1.out.gr hC)) ?_
  simp only [Act.put, List.setIfInBounds_toArray, List.set_cons_succ, List.set_cons_zero]
  refine Mild.step_call rfl 15 #[.agg (cellsOf l).toArray] ?run1 (fun v _ => v = .string ⟨(enc l.reverse).toArray⟩) (fun v w w' _ h => h) (fun w _ _ => (name_any w l hl).mono fun e w' ⟨he, hb⟩ => ⟨_, he, hb, .inr (.inl ⟨rfl, rfl⟩)⟩) ?hk1 ?_
  case run1 => intro w; go_simp
  case hk1 =>
    rintro v w' _ (⟨hf, _⟩ | ⟨_, hv⟩ | ⟨_, hv⟩)
    · exact absurd hf (by decide)
    · exact hv
    · exact hv
  intro v hv
  obtain ⟨_, _, rfl⟩ := hv (by simp)
  simp only [Act.put, List.setIfInBounds_toArray, List.set_cons_succ, List.set_cons_zero]
  refine Mild.step_known F rfl rfl (.agg (cellsOf l).toArray) (fun w0 hC _ => exec_load_arr Try.at32 _ rfl g1 _ hcl rfl (b1.out.gr hC)) ?_
  simp only [Act.put, List.setIfInBounds_toArray, List.set_cons_succ, List.set_cons_zero]
  refine Mild.step_call rfl 16 #[.agg (cellsOf l).toArray] ?run2 (fun v _ => v = .string ⟨(enc l.reverse).toArray⟩) (fun v w w' _ h => h) (fun w _ _ => (refName_any w l hl).mono fun e w' ⟨he, hb⟩ => ⟨_, he, hb, .inr (.inr ⟨rfl, rfl⟩)⟩) ?hk2 ?_
  case run2 => intro w; go_simp
  case hk2 =>
    rintro v w' _ (⟨hf, _⟩ | ⟨_, hv⟩ | ⟨_, hv⟩)
    · exact absurd hf (by decide)
    · exact hv
    · exact hv
  intro v hv
  obtain ⟨_, _, rfl⟩ := hv (by simp)
  simp only [Act.put, List.setIfInBounds_toArray, List.set_cons_succ, List.set_cons_zero]
  refine Mild.step_quiet F rfl rfl rfl (fun w0 hC hF K hK => ?_); clear hF; go_big_quiet_op; refine hK _ ?_; clear hK K hC; clear w0
  refine Mild.step_quiet F rfl rfl rfl (fun w0 hC hF K hK => ?_); clear hF; go_big_quiet_op; refine hK _ ?_; clear hK K hC; clear w0
  refine Mild.step_quiet F rfl rfl rfl (fun w0 hC hF K hK => ?_); clear hF; go_big_quiet_op; refine hK _ ?_; clear hK K hC; clear w0
  refine Mild.step_known F rfl rfl (.agg (cellsOf (parR (bl s))).toArray) (fun w0 hC _ => exec_load_arr Try.at32 _ rfl g3 _ hp rfl (b3.out.gr hC)) ?_
  simp only [Act.put, List.setIfInBounds_toArray, List.set_cons_succ, List.set_cons_zero]
  refine Mild.step_known F rfl rfl (.agg (cellsOf (parR (bl s))).toArray) (fun w0 hC _ => exec_load_arr Try.at32 _ rfl g6 _ hp rfl (b6.out.gr hC)) ?_
  simp only [Act.put, List.setIfInBounds_toArray, List.set_cons_succ, List.set_cons_zero]
  refine Mild.step_known F rfl rfl (.bool (decide (parR (bl s) = parR (bl s)))) (fun w0 hC _ => exec_eql_bytes Try.at32 (by kernel_rfl) (by kernel_rfl) _ _ _ rfl _ _ (parR_length _) (parR_length _) rfl rfl) ?_
  rw [decide_eq_true rfl]
  simp only [Act.put, List.setIfInBounds_toArray, List.set_cons_succ, List.set_cons_zero]
  repeat (refine Mild.step_quiet F rfl rfl rfl (fun w0 hC hF K hK => ?_); clear hF; go_big_quiet_op; refine hK _ ?_; clear hK K hC; clear w0)
  intro w8 hg8 _
  have hfin : Hid (Below w.heap.size w w8) := Gr.trans hw7 hg8
  clear b1 b3 b6 hw7 hg8 F
  go_wp2
  go_ret
  exact ⟨rfl, hfin.out⟩
end Go.Proofs.Ytdoopjejihfpaaa
