/-
  What the law HexesBack comes to: true, and nothing that was there has turned; for whatever bytes and name.
-/
import Derived.Test.YtdoopjejihfpaaaLNames
namespace Go.Proofs.Ytdoopjejihfpaaa
open Go.RowKit

/-- What the callees of the law's last statement tell. -/
def hbackWord (h : List UInt8) (f : FuncId) (_args : Array Value) (v : Value) (_w : World) : Prop :=
  (f = 8 ∧ v = .bool true) ∨ (f = 9 ∧ v = .string ⟨(enc (h.drop 31)).toArray⟩)

theorem hbackFit (w0 : World) (h : List UInt8) : Mild.Fit Gr (fun w => Gr w0 w) (hbackWord h) where
  refl := Gr.refl
  trans := fun _ _ _ => Gr.trans
  inC := fun _ _ => Gr.trans
  keep := fun _ _ _ _ _ h _ => h

set_option maxHeartbeats 400000 in
theorem hback_large (w : World) (ao : Option Addr) (len cap : Nat) (h : List UInt8) (hl : 300 < len) :
    Calls Try.prog 6 #[.slice ao len cap, .agg (cellsOf h).toArray] w fun e w' => e = .returned (.bool true) ∧ Below w.heap.size w w' := by
  go_enter Try.func6, Try.ntmps6
  go_wp2_with (first
    | (refine wpList_box_arr rfl _ _ rfl (cellsOf h) rfl ?_; intro g1 w1 hg1 ha1 hb1)
    | (go_at_call 8; refine (alive_any _).mono ?_; rintro e w2 ⟨rfl, hb2⟩))
  go_ret
  exact ⟨rfl, Gr.trans hb1 hb2⟩

theorem first_two (h : List UInt8) (hh : h.length = 32) : (⟨(enc h.reverse).toArray⟩ : ByteArray).extract 0 2 = ⟨(enc (h.drop 31)).toArray⟩ := by
  have e1 : h = h.take 31 ++ [h[31]] := by
    rw [← List.take_succ_eq_append_getElem (by omega), List.take_of_length_le (by omega)]
  have e2 : h.drop 31 = [h[31]] := by
    rw [List.drop_eq_getElem_cons (by omega), List.drop_of_length_le (by omega)]
  rw [e2]
  have e3 : h.reverse = h[31] :: (h.take 31).reverse := by
    conv => lhs; rw [e1]
    simp
  rw [e3]
  apply ByteArray.ext
  simp [enc]

set_option maxRecDepth 100000 in
set_option maxHeartbeats 1000000 in
theorem hback_small (w : World) (v : Value) (l h : List UInt8) (hrd : Rs w v l) (hl : l.length ≤ 300) (hh : h.length = 32) :
    Calls Try.prog 6 #[v, .agg (cellsOf h).toArray] w fun e w' => e = .returned (.bool true) ∧ Below w.heap.size w w' := by
  have HR : Hid (Rs w v l) := hrd
  obtain ⟨ao, cap, rfl⟩ := Rd.len hrd
  have z := zeros_cells
  have hz : (cellsOf (List.replicate 32 0)).length = 32 := by simp [cellsOf]
  have hcl : (cellsOf h).length = 32 := by rw [cellsOf_length]; exact hh
  obtain ⟨S, hS⟩ : ∃ S : ByteArray, (⟨(enc l).toArray⟩ : ByteArray) = S := ⟨_, rfl⟩
  obtain ⟨T, hT⟩ : ∃ T : ByteArray, (⟨(enc h.reverse).toArray⟩ : ByteArray) = T := ⟨_, rfl⟩
  have HS : Hid ((⟨(enc l).toArray⟩ : ByteArray) = S) := hS
  have HT : Hid ((⟨(enc h.reverse).toArray⟩ : ByteArray) = T) := hT
  have sS : S.size = 2 * l.length := by rw [← hS]; show (enc l).toArray.size = _; simp [enc_length]
  have sT : T.size = 64 := by rw [← hT]; show (enc h.reverse).toArray.size = _; simp [enc_length, hh]
  have dS : Hid (decR (bl S) = l ∧ decE (bl S) = 0) := by
    show _ ∧ _
    rw [← hS, bl_mk]; have := dec_ok _ (okS_enc l); rw [decB_enc] at this; exact this
  have dT : Hid (parR (bl T) = h ∧ parE (bl T) = 0) := by
    show _ ∧ _
    rw [← hT, bl_mk]; exact par_name h hh
  have xT : Hid (T.extract 0 2 = ⟨(enc (h.drop 31)).toArray⟩) := by show _ = _; rw [← hT]; exact first_two h hh
  have tS : ((S.size : Int) == 2 * (l.length : Int)) = true := by simp; omega
  have tT : ((T.size : Int) == 64) = true := by simp; omega
  have lS : S.size ≤ 1000000 := by omega
  have lT : 2 ≤ T.size := by omega
  clear hS hT sS sT hrd
  go_enter Try.func6, Try.ntmps6
  go_wp2_with (first
    | (refine wpList_box_arr rfl _ _ rfl (cellsOf h) rfl ?_; intro g1 w1 hg1 ha1 hb1)
    | (go_at_call 9; refine (encode_any _ _ _ l (HR.out.gr hb1) (by omega)).mono ?_; rw [HS.out]; rintro e w2 ⟨rfl, hb2⟩)
    | (go_at_call 11; refine (decode_any _ S lS).mono ?_; rw [dS.out.1, dS.out.2]; rintro e w3 ⟨v3, rfl, ho3, hb3⟩)
    | (refine wpList_load_arr Try.at32 rfl (.tmp 3) rfl g1 (cellsOf h) hcl rfl ((ha1.gr hb2).gr hb3) ?_)
    | (go_at_call 15; refine (name_any _ h hh).mono ?_; rw [HT.out]; rintro e w4 ⟨rfl, hb4⟩)
    | (go_at_call 13; refine (parse_any _ T).mono ?_; rw [dT.out.1, dT.out.2]; rintro e w5 ⟨rfl, hb5⟩)
    | (refine wpList_alloc_arr Try.at32 rfl rfl 9 rfl ?_; rw [z]; intro g6 w6 hg6 ha6 hb6)
    | (refine wpList_store_arr Try.at32 rfl (.tmp 9) (.tmp 27) rfl rfl g6 _ (cellsOf h) hz hcl (cellsOf_one _) rfl rfl ha6 ?_; intro w7 ha7 hb7))
  have a1 := ((((ha1.gr hb2).gr hb3).gr hb4).gr hb5)
  have n1 : g1 ≠ g6 := by have := a1.lt; omega
  have b1 : Hid (Arr 30 w7 g1 (cellsOf h)) := (a1.gr hb6).but hb7 n1
  have b6 : Hid (Arr 30 w7 g6 (cellsOf h)) := ha7
  have hw5 : Gr w w5 := Gr.trans (Gr.trans (Gr.trans (Gr.trans hb1 hb2) hb3) hb4) hb5
  have hw57 : Gr w5 w7 := Below.trans hb6 (hb7.below hg6)
  have hw7 : Gr w w7 := Gr.trans hw5 hw57
  have r0 : Rs w7 (.slice ao l.length cap) l := HR.out.gr hw7
  have r3 : Rs w7 v3 l := (((ho3.keep hb4).keep hb5).rd.rs).gr hw57
  clear hb1 hb2 hb3 hb4 hb5 hb6 hb7 ha1 ha6 ha7 a1 n1 hw5 hw57 hg1 hg6 hz z ho3
  have F := hbackFit w7 h
  refine Mild.wp_region F (by kernel_rfl) (by kernel_rfl) (Below.drewN' _ _ 1) ?_
  refine Mild.step_call rfl 8 #[] ?run (fun v _ => v = .bool true) (fun v w w' _ h => h) (fun w _ _ => (alive_any w).mono fun e w' ⟨he, hb⟩ => ⟨_, he, hb, .inl ⟨rfl, rfl⟩⟩) ?hk ?_
  case run => intro w; go_simp
  case hk =>
    rintro v w' _ (⟨_, hv⟩ | ⟨hf, _⟩)
    · exact hv
    · exact absurd hf (by decide)
  intro v hv
  obtain ⟨_, _, rfl⟩ := hv (by simp)
  simp only [Act.put, List.setIfInBounds_toArray, List.set_cons_succ, List.set_cons_zero]
  have c0 := fun w0 k (hC : Gr w7 w0) => run_conv_rd Try.bt 9 (by kernel_rfl) (w0.drewN k) _ (.slice ao l.length cap) _ ((r0.gr hC).drewN k)
  have c3 := fun w0 k (hC : Gr w7 w0) => run_conv_rd Try.bt 9 (by kernel_rfl) (w0.drewN k) _ v3 _ ((r3.gr hC).drewN k)
  iterate 29 (refine Mild.step_quiet F rfl rfl rfl (fun w0 hC hF K hK => ?_); clear hF; go_big_quiet_op; refine hK _ ?_; clear hK K hC; clear w0)
  refine Mild.step_known F rfl rfl (.agg (cellsOf h).toArray) (fun w0 hC _ => exec_load_arr Try.at32 _ rfl g6 _ hcl rfl (b6.out.gr hC)) ?_
  simp only [Act.put, List.setIfInBounds_toArray, List.set_cons_succ, List.set_cons_zero]
  refine Mild.step_known F rfl rfl (.agg (cellsOf h).toArray) (fun w0 hC _ => exec_load_arr Try.at32 _ rfl g1 _ hcl rfl (b1.out.gr hC)) ?_
  simp only [Act.put, List.setIfInBounds_toArray, List.set_cons_succ, List.set_cons_zero]
  refine Mild.step_known F rfl rfl (.bool (decide (h = h))) (fun w0 hC _ => exec_eql_bytes Try.at32 (by kernel_rfl) (by kernel_rfl) _ _ _ rfl _ _ hh hh rfl rfl) ?_
  rw [decide_eq_true rfl]
  simp only [Act.put, List.setIfInBounds_toArray, List.set_cons_succ, List.set_cons_zero]
  iterate 3 (refine Mild.step_quiet F rfl rfl rfl (fun w0 hC hF K hK => ?_); clear hF; go_big_quiet_op; refine hK _ ?_; clear hK K hC; clear w0)
  refine Mild.step_known F rfl rfl (.string (T.extract 0 2)) (fun w0 hC _ => exec_slice_str (by kernel_rfl) _ _ rfl T 2 lT rfl 2 rfl rfl) ?_
  simp only [Act.put, List.setIfInBounds_toArray, List.set_cons_succ, List.set_cons_zero]
  refine Mild.step_known F rfl rfl (.slice (some ⟨g1, 31, none⟩) (32 - 31) (32 - 31)) (fun w0 hC _ => exec_slice_arr_from Try.at32 _ _ rfl g1 31 (by decide) rfl 31 rfl rfl) ?_
  simp only [Act.put, List.setIfInBounds_toArray, List.set_cons_succ, List.set_cons_zero]
  refine Mild.step_call rfl 9 #[.slice (some ⟨g1, 31, none⟩) (32 - 31) (32 - 31)] ?run1 (fun v _ => v = .string ⟨(enc (h.drop 31)).toArray⟩) (fun v w w' _ h => h) (fun w hC _ => (encode_any w _ _ (h.drop 31) ((Arr.rd (b1.out.gr hC) h.length rfl).drop (k := 31) (by omega) g1 (0 + 31) _ _ (.inr ⟨rfl, rfl⟩) (by omega) (by omega)) (by simp; omega)).mono fun e w' ⟨he, hb⟩ => ⟨_, he, hb, .inr ⟨rfl, rfl⟩⟩) ?hk1 ?_
  case run1 => intro w; go_simp
  case hk1 =>
    rintro v w' _ (⟨hf, _⟩ | ⟨_, hv⟩)
    · exact absurd hf (by decide)
    · exact hv
  intro v hv
  obtain ⟨_, _, rfl⟩ := hv (by simp)
  simp only [Act.put, List.setIfInBounds_toArray, List.set_cons_succ, List.set_cons_zero]
  rw [xT.out]
  iterate 3 (refine Mild.step_quiet F rfl rfl rfl (fun w0 hC hF K hK => ?_); clear hF; go_big_quiet_op; refine hK _ ?_; clear hK K hC; clear w0)
  intro w8 hg8 _
  have hfin : Hid (Below w.heap.size w w8) := Gr.trans hw7 hg8
  clear c0 c3 b1 b6 hw7 hg8 F r0 r3
  go_wp2
  go_ret
  exact ⟨rfl, hfin.out⟩
end Go.Proofs.Ytdoopjejihfpaaa
