/-
  ShaRoots.
-/
import Derived.Test.YtkgenageeiaacaaDoorR2
import Derived.Test.YtkgenageeiaacaaDoorS10
namespace Go.Proofs.YtkgenageeiaacaaDoor
open Go.RowKit

set_option maxHeartbeats 2000000 in
theorem roots_law (w : World) (ht : Tabs w) (h2 : 2 ≤ w.heap.size) :
    Calls Tryd.prog 8 #[] w fun e w' => e = .returned (.bool true) ∧ Below w.heap.size w w' := by
  have HS1 : Hid (∀ w' u, Gr w w' → Rd w'.heap.size w' u [97, 98, 99] → Calls Tryd.prog 11 #[u] w' fun e w'' => e = .returned (.agg (cellsOf (hsh [97, 98, 99])).toArray) ∧ Below w'.heap.size w' w'') := fun w' u hw hu => shasum_any _ _ u w' hu (ht.gr hw) (Nat.le_trans h2 (Below.size hw)) (by decide)
  have HAL : Hid (∀ w', Gr w w' → Calls Tryd.prog 10 #[] w' fun e w'' => e = .returned (.bool true) ∧ Below w'.heap.size w' w'') := fun w' hw => alive_any w' (ht.gr hw) (Nat.le_trans h2 (Below.size hw))
  have HRT : Hid (∀ w', Calls Tryd.prog 21 #[] w' fun e w'' => e = .returned (.bool true) ∧ Below w'.heap.size w' w'') := fun w' => right_doc w'
  have H1 : Hid ((cellsOf (hsh [97, 98, 99]))[1]? = some (.int .u8 120)) := by show _ = _; rw [hsh_abc]; rfl
  have H2 : Hid ((cellsOf (hsh [97, 98, 99]))[2]? = some (.int .u8 22)) := by show _ = _; rw [hsh_abc]; rfl
  have H3 : Hid ((cellsOf (hsh [97, 98, 99]))[3]? = some (.int .u8 191)) := by show _ = _; rw [hsh_abc]; rfl
  have H28 : Hid ((cellsOf (hsh [97, 98, 99]))[28]? = some (.int .u8 242)) := by show _ = _; rw [hsh_abc]; rfl
  have H29 : Hid ((cellsOf (hsh [97, 98, 99]))[29]? = some (.int .u8 0)) := by show _ = _; rw [hsh_abc]; rfl
  have H30 : Hid ((cellsOf (hsh [97, 98, 99]))[30]? = some (.int .u8 21)) := by show _ = _; rw [hsh_abc]; rfl
  have HL1 : Hid ((cellsOf (hsh [97, 98, 99])).length = 32) := by show _ = _; rw [cellsOf_length, hsh_length]
  obtain ⟨HA, eA⟩ : ∃ H, hsh [97, 98, 99] = H := ⟨_, rfl⟩
  rw [eA] at HS1 H1 H2 H3 H28 H29 H30 HL1
  have m := Mem.start w
  clear eA ht h2
  go_enter Tryd.func8, Tryd.ntmps8
  go_wp2_with ((first
    | (refine wpList_conv_lit Tryd.bt rfl (.tmp 2) rfl [97, 98, 99] _ rfl 3 rfl rfl ?_; intro wx0 hr0 b0; replace m := m.gr b0; clear b0)
    | (go_at_call 11; refine (HS1.out _ _ m.below hr0).mono ?_; rintro e wx1 ⟨rfl, b1⟩; replace m := m.gr b1; clear b1 HS1 hr0)
    | (refine wpList_alloc_mem Tryd.ah m rfl rfl 1 rfl _ zeros32 ?_; clear m; intro g1 wx2 m)
    | (refine wpList_store_mem Tryd.ah m rfl (.tmp 1) (.tmp 4) rfl rfl 0 (cellsOf HA) rfl rfl HL1.out (cellsOf_one _) rfl rfl ?_; clear m; intro wx3 m)
    | (go_at_call 10; refine (HAL.out _ m.below).mono ?_; rintro e wx4 ⟨rfl, b4⟩; replace m := m.gr b4; clear b4 HAL)
    | (go_at_call 21; refine (HRT.out _).mono ?_; rintro e wx5 ⟨rfl, b5⟩; replace m := m.gr b5; clear b5 HRT; have c1 := cell_of_arr (m.get 0 rfl) H1.out; have c2 := cell_of_arr (m.get 0 rfl) H2.out; have c3 := cell_of_arr (m.get 0 rfl) H3.out; have c28 := cell_of_arr (m.get 0 rfl) H28.out; have c29 := cell_of_arr (m.get 0 rfl) H29.out; have c30 := cell_of_arr (m.get 0 rfl) H30.out; have HB9 : Hid (Below w.heap.size w wx5) := m.below; clear m)); try simp only [Act.put, List.setIfInBounds_toArray, List.set_cons_succ, List.set_cons_zero])
  go_ret
  exact ⟨rfl, HB9.out⟩
end Go.Proofs.YtkgenageeiaacaaDoor
