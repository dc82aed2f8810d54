/-
  ShaTags: the double hash and the tagged one by themselves; a call, a slice and a choice in a statement that draws its order, behind a guard.
-/
import Derived.Test.YtabhmjaellagmaaDoorS12
namespace Go.Proofs.YtabhmjaellagmaaDoor
open Go.RowKit

theorem Seq.call {P : Program} {ops : Array Oper} {C : World → Prop} {kd : List Nat} {Q : Act → World → Prop} {i : Nat} {o : Oper} {rest : List Oper} {a : Act} {w : World} (hw : Region.wanted o (yielded ops a.tmps) = true) (hk : kd.getD i 0 = 2) (f : FuncId) (args : Array Value) (hrun : (execOp a.eval o).run P w = .ok (.enter f args) w)
    {R : Ending → World → Prop} (hc : Calls P f args w R) (h : ∀ e w', R e w' → match e with | .returned v => C w' ∧ Seq.wpSeq P ops C kd Q (i + 1) rest (a.put o.dst v) w' | _ => False) : Seq.wpSeq P ops C kd Q i (o :: rest) a w := by
  unfold Seq.wpSeq
  simp only [hw, if_true, hk]
  unfold Oper.wp
  rw [hrun]
  refine hc.mono fun e w' he => ?_
  have h1 := h e w' he
  cases e with
  | returned v => exact h1
  | panicked c => exact h1.elim
  | outgrown => exact h1.elim
theorem exec_pick {P : Program} {ρ : Operand → Value} {o : Oper} {w : World} (c x y : Operand) (ho : o.op = .pick c x y) (b : Bool) (v : Value) (hc : ρ c = .bool b) (hv : (if b then ρ x else ρ y) = v) : (execOp ρ o).run P w = .ok (.value v) w := by
  subst hv
  unfold execOp
  simp only [ho, hc, asBool, Sem.run_bind, Sem.run_pure, Result.andThen_ok]
theorem exec_slice_all {P : Program} {A E : TypeId} {N : Nat} {z : Value} (t : AT P A E N z) {ρ : Operand → Value} {o : Oper} {w : World} (x : Operand) (ho : o.op = .slice A x none none none) (g : Nat) (hx : ρ x = .pointer (some ⟨g, 0, none⟩)) :
    (execOp ρ o).run P w = .ok (.value (.slice (some ⟨g, 0, none⟩) N N)) w := by
  unfold execOp
  simp only [ho, hx, Sem.run_bind, Sem.run_pure, Result.andThen_ok, Option.map_none, run_slice_arr t w g]

set_option maxHeartbeats 2000000 in
theorem tags_law (tag : ByteArray) (v : Value) (b : List UInt8) (w : World) (hr : Rs w v b) (ht : Tabs w) (h2 : 2 ≤ w.heap.size) :
    Calls Tryd.prog 6 #[.string tag, v] w fun e w' => e = .returned (.bool true) ∧ Below w.heap.size w w' := by
  have HAL : Hid (∀ w', Gr w w' → Calls Tryd.prog 10 #[] w' fun e w'' => e = .returned (.bool true) ∧ Below w'.heap.size w' w'') := fun w' hw => alive_any w' (ht.gr hw) (Nat.le_trans h2 (Below.size hw))
  have HR : Hid (Rs w v b) := hr
  have HT : Hid (Tabs w) := ht
  have H2 : Hid (2 ≤ w.heap.size) := h2
  obtain ⟨ao, cap, rfl⟩ := Rd.len hr
  clear hr ht h2
  by_cases hb : 300 < b.length
  · go_enter Tryd.func6, Tryd.ntmps6
    go_wp2_with (go_at_call 10; refine (HAL.out _ (Gr.refl _)).mono ?_; rintro e w2 ⟨rfl, b2⟩; clear HAL)
    go_ret
    exact ⟨rfl, b2⟩
  by_cases hg : 300 < tag.size
  · go_enter Tryd.func6, Tryd.ntmps6
    go_wp2_with (go_at_call 10; refine (HAL.out _ (Gr.refl _)).mono ?_; rintro e w2 ⟨rfl, b2⟩; clear HAL)
    go_ret
    exact ⟨rfl, b2⟩
  have HBL : Hid (b.length ≤ 300) := Nat.le_of_not_lt hb
  have HTL : Hid (tag.size ≤ 300) := Nat.le_of_not_lt hg
  have hsum : ∀ (B : Nat) (l : List UInt8) (u : Value) (w' : World), Gr w w' → Rd B w' u l → l.length ≤ 900000 → Calls Tryd.prog 11 #[u] w' fun e w'' => e = .returned (.agg (cellsOf (hsh l)).toArray) ∧ Below w'.heap.size w' w'' := fun B l u w' hw hu hl => shasum_any _ l u w' hu (HT.out.gr hw) (Nat.le_trans H2.out (Below.size hw)) hl
  have HS1 : Hid (Calls Tryd.prog 11 #[.slice ao b.length cap] w fun e w'' => e = .returned (.agg (cellsOf (hsh b)).toArray) ∧ Below w.heap.size w w'') := hsum _ b _ w (Gr.refl _) HR.out (by have := HBL.out; omega)
  have HS2 : Hid (∀ w' u, Gr w w' → Rd w'.heap.size w' u tag.data.toList → Calls Tryd.prog 11 #[u] w' fun e w'' => e = .returned (.agg (cellsOf (hsh tag.data.toList)).toArray) ∧ Below w'.heap.size w' w'') := fun w' u hw hu => hsum _ _ u w' hw hu (by have := HTL.out; simp only [Array.length_toList, ByteArray.size_data]; omega)
  have HDB : Hid (∀ w', Gr w w' → Calls Tryd.prog 13 #[.slice ao b.length cap] w' fun e w'' => e = .returned (.agg (cellsOf (hsh (hsh b))).toArray) ∧ Below w'.heap.size w' w'') := fun w' hw => double_any _ b _ w' (HR.out.gr hw) (HT.out.gr hw) (Nat.le_trans H2.out (Below.size hw)) (by have := HBL.out; omega)
  have HTG : Hid (∀ w', Gr w w' → Calls Tryd.prog 15 #[.string tag, .slice ao b.length cap] w' fun e w'' => e = .returned (.agg (cellsOf (hsh (hsh tag.data.toList ++ hsh tag.data.toList ++ b))).toArray) ∧ Below w'.heap.size w' w'') := fun w' hw => tagged_any _ tag b _ w' (HR.out.gr hw) (HT.out.gr hw) (Nat.le_trans H2.out (Below.size hw)) (by have := HBL.out; omega) (by have := HTL.out; omega)
  have hl1 : (hsh b).length = 32 := hsh_length _
  have hl2 : (hsh tag.data.toList).length = 32 := hsh_length _
  obtain ⟨H, eH⟩ : ∃ H, hsh b = H := ⟨_, rfl⟩
  obtain ⟨T, eT⟩ : ∃ T, hsh tag.data.toList = T := ⟨_, rfl⟩
  rw [eH] at HS1 hl1 HDB
  rw [eT] at HS2 hl2 HTG
  have HSH : Hid (∀ w' u, Gr w w' → Rd w'.heap.size w' u H → Calls Tryd.prog 11 #[u] w' fun e w'' => e = .returned (.agg (cellsOf (hsh H)).toArray) ∧ Below w'.heap.size w' w'') := fun w' u hw hu => hsum _ _ u w' hw hu (by omega)
  have HSA : Hid (∀ w' u, Gr w w' → Rd w'.heap.size w' u (T ++ T ++ b) → Calls Tryd.prog 11 #[u] w' fun e w'' => e = .returned (.agg (cellsOf (hsh (T ++ T ++ b))).toArray) ∧ Below w'.heap.size w' w'') := fun w' u hw hu => hsum _ _ u w' hw hu (by have := HBL.out; rw [List.length_append, List.length_append]; omega)
  have HLH : Hid (H.length = 32) := hl1
  have HLT : Hid (T.length = 32) := hl2
  have HL1 : Hid ((cellsOf H).length = 32) := by show _ = _; rw [cellsOf_length, hl1]
  have HL2 : Hid ((cellsOf T).length = 32) := by show _ = _; rw [cellsOf_length, hl2]
  have hS : Tryd.prog.underlying 9 = some .string := by kernel_rfl
  have HST : Hid (Tryd.prog.underlying 9 = some .string) := hS
  have m := Mem.start w
  clear eH eT hl1 hl2 hsum hS
  go_enter Tryd.func6, Tryd.ntmps6
  go_wp2_with ((first
    | (go_at_call 11; refine HS1.out.mono ?_; rintro e wx1 ⟨rfl, b1⟩; replace m := m.gr b1; clear b1 HS1)
    | (refine wpList_alloc_mem Tryd.ah m rfl rfl 5 rfl _ zeros32 ?_; clear m; intro g5 wx2 m)
    | (refine wpList_store_mem Tryd.ah m rfl (.tmp 5) (.tmp 18) rfl rfl 0 (cellsOf H) rfl rfl HL1.out (cellsOf_one _) rfl rfl ?_; clear m; intro wx3 m)
    | (refine wpList_conv_str Tryd.bt rfl 9 (.tmp 19) rfl HST.out tag rfl ?_; intro v1 wx4 hr1 b1; replace m := m.gr b1; clear b1)
    | (go_at_call 11; refine (HS2.out _ _ m.below hr1).mono ?_; rintro e wx5 ⟨rfl, b4⟩; replace m := m.gr b4; clear b4 HS2 hr1)
    | (refine wpList_alloc_mem Tryd.ah m rfl rfl 6 rfl _ zeros32 ?_; clear m; intro g6 wx6 m)
    | (refine wpList_store_mem Tryd.ah m rfl (.tmp 6) (.tmp 21) rfl rfl 0 (cellsOf T) rfl rfl HL2.out (cellsOf_one _) rfl rfl ?_; clear m; intro wx7 m; have HM : Hid (Mem w wx7 _) := m; clear m)
    | (refine wpList_slice_arr Tryd.ah rfl (.tmp 6) rfl g6 rfl ?_)
    | (refine wpList_append_rd Tryd.bt rfl (.tmp 22) (.tmp 23) rfl wx7.heap.size _ _ _ [] T rfl (Own.empty 5 wx7.heap.size wx7 (Nat.le_refl _)) rfl (((HM.out.gr ((Below.refl _ _).alloc (Nat.le_refl _) _)).get 0 rfl).rd 32 HLT.out.symm) (by rw [HLT.out]; decide) (by simp) ?_; intro v8 wx8 ho8 hb8; rw [List.nil_append] at ho8; have HO8 : Hid (Own 5 wx7.heap.size wx8 v8 T) := ho8; have HB8 : Hid (Gr wx7 wx8) := ((Below.refl _ _).alloc (Nat.le_refl _) _).trans hb8; clear ho8 hb8)
    | (refine wpList_append_rd Tryd.bt rfl (.tmp 25) (.tmp 26) rfl wx7.heap.size _ _ _ T T rfl HO8.out rfl (((HM.out.gr HB8.out).get 0 rfl).rd 32 HLT.out.symm) (by rw [HLT.out]; decide) (Below.size HB8.out) ?_; intro v9 wx9 ho9 hb9; have HO9 : Hid (Own 5 wx7.heap.size wx9 v9 (T ++ T)) := ho9; have HB9 : Hid (Gr wx7 wx9) := Below.trans HB8.out hb9; clear ho9 hb9 HO8 HB8)
    | (refine wpList_append_rd Tryd.bt rfl (.tmp 28) (.tmp 29) rfl wx7.heap.size _ _ _ (T ++ T) b rfl HO9.out rfl (HR.out.gr (HM.out.gr HB9.out).below) (by have := HBL.out; rw [List.length_append, HLT.out]; omega) (Below.size HB9.out) ?_; intro v10 w5 ho10 hb10; have HO : Hid (Own 5 wx7.heap.size w5 v10 (T ++ T ++ b)) := ho10; have HB : Hid (Gr wx7 w5) := Below.trans HB9.out hb10; clear ho10 hb10 HO9 HB9)); try simp only [Act.put, List.setIfInBounds_toArray, List.set_cons_succ, List.set_cons_zero])
  have M := HM.out.gr HB.out
  have hR5 : Rs w5 (.slice (some ⟨g5, 0, none⟩) 32 32) H := ((M.get 1 rfl).rd 32 HLH.out.symm).self
  have hRA : Rs w5 v10 (T ++ T ++ b) := HO.out.rd
  obtain ⟨HH, eHH⟩ : ∃ X, hsh H = X := ⟨_, rfl⟩
  obtain ⟨HA, eHA⟩ : ∃ X, hsh (T ++ T ++ b) = X := ⟨_, rfl⟩
  have hl3 : HH.length = 32 := by rw [← eHH]; exact hsh_length _
  have hl4 : HA.length = 32 := by rw [← eHA]; exact hsh_length _
  rw [eHH] at HDB HSH
  rw [eHA] at HTG HSA
  have gw : ∀ w', Gr w5 w' → Gr w w' := fun w' hC => M.below.trans (Below.mono hC M.below.size)
  refine Seq.wp_region (fun w' => Gr w5 w') [2, 0, 0, 2, 0, 2, 0, 0, 0, 0, 0, 2, 0, 2, 0, 0, 0] (by kernel_rfl) (by kernel_rfl) (by kernel_rfl) (Below.drewN' _ _ 1) ?_
  refine Seq.call rfl rfl 10 #[] ?runa (HAL.out _ (gw _ (Below.drewN' _ _ 1))) ?_
  case runa => go_simp
  rintro e wa ⟨rfl, ba⟩
  have ga : Gr w5 wa := Gr.trans (Below.drewN' _ _ 1) ba
  refine ⟨ga, ?_⟩
  simp only [Act.put, List.setIfInBounds_toArray, List.set_cons_succ, List.set_cons_zero]
  refine Seq.st rfl rfl (.bool true) (fun w' hC => exec_move (.tmp 31) (.inl rfl) _ rfl) ?_
  simp only [Act.put, List.setIfInBounds_toArray, List.set_cons_succ, List.set_cons_zero]
  refine Seq.st rfl rfl (.slice ao b.length cap) (fun w' hC => exec_move (.tmp 1) (.inl rfl) _ rfl) ?_
  simp only [Act.put, List.setIfInBounds_toArray, List.set_cons_succ, List.set_cons_zero]
  refine Seq.call rfl rfl 13 #[.slice ao b.length cap] ?runb (HDB.out _ (gw _ ga)) ?_
  case runb => go_simp
  rintro e wb ⟨rfl, bb⟩
  have gb : Gr w5 wb := Gr.trans ga bb
  refine ⟨gb, ?_⟩
  simp only [Act.put, List.setIfInBounds_toArray, List.set_cons_succ, List.set_cons_zero]
  refine Seq.st rfl rfl (.slice (some ⟨g5, 0, none⟩) 32 32) (fun w' hC => exec_slice_all Tryd.ah (.tmp 5) rfl g5 rfl) ?_
  simp only [Act.put, List.setIfInBounds_toArray, List.set_cons_succ, List.set_cons_zero]
  refine Seq.call rfl rfl 11 #[.slice (some ⟨g5, 0, none⟩) 32 32] ?runc (HSH.out _ _ (gw _ gb) (hR5.gr gb).self) ?_
  case runc => go_simp
  rintro e wc ⟨rfl, bc⟩
  have gc : Gr w5 wc := Gr.trans gb bc
  refine ⟨gc, ?_⟩
  simp only [Act.put, List.setIfInBounds_toArray, List.set_cons_succ, List.set_cons_zero]
  refine Seq.st rfl rfl (.bool true) (fun w' hC => exec_eql_same (.tmp 34) (.tmp 36) _ rfl HH hl3 rfl rfl) ?_
  simp only [Act.put, List.setIfInBounds_toArray, List.set_cons_succ, List.set_cons_zero]
  refine Seq.st rfl rfl (.bool true) (fun w' hC => exec_pick (.tmp 32) (.tmp 37) (.const (.bool false)) rfl true _ rfl rfl) ?_
  simp only [Act.put, List.setIfInBounds_toArray, List.set_cons_succ, List.set_cons_zero]
  refine Seq.st rfl rfl (.bool true) (fun w' hC => exec_move (.tmp 38) (.inl rfl) _ rfl) ?_
  simp only [Act.put, List.setIfInBounds_toArray, List.set_cons_succ, List.set_cons_zero]
  refine Seq.st rfl rfl (.string tag) (fun w' hC => exec_move (.tmp 0) (.inl rfl) _ rfl) ?_
  simp only [Act.put, List.setIfInBounds_toArray, List.set_cons_succ, List.set_cons_zero]
  refine Seq.st rfl rfl (.slice ao b.length cap) (fun w' hC => exec_move (.tmp 1) (.inl rfl) _ rfl) ?_
  simp only [Act.put, List.setIfInBounds_toArray, List.set_cons_succ, List.set_cons_zero]
  refine Seq.call rfl rfl 15 #[.string tag, .slice ao b.length cap] ?rund (HTG.out _ (gw _ gc)) ?_
  case rund => go_simp
  rintro e wd ⟨rfl, bd⟩
  have gd : Gr w5 wd := Gr.trans gc bd
  refine ⟨gd, ?_⟩
  simp only [Act.put, List.setIfInBounds_toArray, List.set_cons_succ, List.set_cons_zero]
  refine Seq.st rfl rfl (v10) (fun w' hC => exec_move (.tmp 7) (.inl rfl) _ rfl) ?_
  simp only [Act.put, List.setIfInBounds_toArray, List.set_cons_succ, List.set_cons_zero]
  refine Seq.call rfl rfl 11 #[v10] ?runf (HSA.out _ _ (gw _ gd) (hRA.gr gd).self) ?_
  case runf => go_simp
  rintro e wf ⟨rfl, bf⟩
  have gf : Gr w5 wf := Gr.trans gd bf
  refine ⟨gf, ?_⟩
  simp only [Act.put, List.setIfInBounds_toArray, List.set_cons_succ, List.set_cons_zero]
  refine Seq.st rfl rfl (.bool true) (fun w' hC => exec_eql_same (.tmp 42) (.tmp 44) _ rfl HA hl4 rfl rfl) ?_
  simp only [Act.put, List.setIfInBounds_toArray, List.set_cons_succ, List.set_cons_zero]
  refine Seq.st rfl rfl (.bool true) (fun w' hC => exec_pick (.tmp 39) (.tmp 45) (.const (.bool false)) rfl true _ rfl rfl) ?_
  simp only [Act.put, List.setIfInBounds_toArray, List.set_cons_succ, List.set_cons_zero]
  refine Seq.st rfl rfl (.bool true) (fun w' hC => exec_move (.tmp 46) (.inr rfl) _ rfl) ?_
  simp only [Act.put, List.setIfInBounds_toArray, List.set_cons_succ, List.set_cons_zero]
  refine Seq.fin ?_
  have HE : Hid (Below w.heap.size w wf) := gw _ gf
  go_wp2
  go_ret
  exact ⟨rfl, HE.out⟩
end Go.Proofs.YtabhmjaellagmaaDoor
