/-
  What the laws of package sha alone need: comparisons of hashes behind a guard; ShaNil.
-/
import Derived.Test.YtkgenageeiaacaaDoorS9
namespace Go.Proofs.YtkgenageeiaacaaDoor
open Go.RowKit

theorem wpList_valG {P : Program} {w : World} {ops : Array Oper} {rest : List Oper} {o : Oper} {a : Act} {Q : Exit → Act → World → Prop} (hw : Region.wanted o (yielded ops a.tmps) = true) (v : Value) (h : (execOp a.eval o).run P w = .ok (.value v) w)
    (hr : wpList P ops Q rest (a.put o.dst v) w) : wpList P ops Q (o :: rest) a w := by
  unfold wpList
  rw [if_pos hw]
  refine .inl ?_
  unfold Oper.wp
  rw [h]
  exact hr
theorem exec_eql_same {ρ : Operand → Value} {o : Oper} {w : World} (x y : Operand) (T : TypeId) (ho : o.op = .binOp .eql 24 x y T) (l : List UInt8) (hl : l.length = 32) (hx : ρ x = .agg (cellsOf l).toArray) (hy : ρ y = .agg (cellsOf l).toArray) :
    (execOp ρ o).run Tryd.prog w = .ok (.value (.bool true)) w := by
  have h := exec_eql_bytes (w := w) Tryd.ah (by kernel_rfl) (by kernel_rfl) x y T ho l l hl hl hx hy
  simpa using h

set_option maxHeartbeats 1000000 in
theorem nil_law (v : Value) (w : World) (ht : Tabs w) (h2 : 2 ≤ w.heap.size) :
    Calls Tryd.prog 9 #[v] w fun e w' => e = .returned (.bool true) ∧ Below w.heap.size w w' := by
  have HAL : Hid (∀ w', Gr w w' → Calls Tryd.prog 10 #[] w' fun e w'' => e = .returned (.bool true) ∧ Below w'.heap.size w' w'') := fun w' hw => alive_any w' (ht.gr hw) (Nat.le_trans h2 (Below.size hw))
  have HSN : Hid (∀ w', Gr w w' → Calls Tryd.prog 19 #[.pointer none] w' fun e w'' => e = .returned (.agg (cellsOf (hsh [])).toArray) ∧ Below w'.heap.size w' w'') := fun w' hw => sum_nil w' (ht.gr hw) (Nat.le_trans h2 (Below.size hw))
  have HSS : Hid (∀ w', Gr w w' → Calls Tryd.prog 11 #[.slice none 0 0] w' fun e w'' => e = .returned (.agg (cellsOf (hsh [])).toArray) ∧ Below w'.heap.size w' w'') := fun w' hw => shasum_any _ [] _ w' (Rd.nil 0 w') (ht.gr hw) (Nat.le_trans h2 (Below.size hw)) (by decide)
  have HL : Hid ((hsh []).length = 32) := hsh_length []
  obtain ⟨H, eH⟩ : ∃ H, hsh [] = H := ⟨_, rfl⟩
  rw [eH] at HSN HSS HL
  clear eH ht h2
  go_enter Tryd.func9, Tryd.ntmps9
  go_wp2_with ((first
    | (go_at_call 18; refine (write_nil _ _).mono ?_; rintro e w1 ⟨rfl, h1⟩; rw [h1]; clear h1 w1)
    | (go_at_call 10; refine (HAL.out _ (Gr.refl _)).mono ?_; rintro e w2 ⟨rfl, b2⟩; clear HAL)
    | (go_at_call 19; refine (HSN.out _ b2).mono ?_; rintro e w3 ⟨rfl, b3⟩; replace b3 := Gr.trans b2 b3; clear b2 HSN)
    | (go_at_call 11; refine (HSS.out _ b3).mono ?_; rintro e w4 ⟨rfl, b4⟩; replace b4 := Gr.trans b3 b4; clear b3 HSS)
    | (refine wpList_valG rfl (.bool true) (exec_eql_same (.tmp 10) (.tmp 11) _ rfl H HL.out rfl rfl) ?_)
    | (go_at_call 20; refine (len_nil _).mono ?_; rintro e w5 ⟨rfl, h5⟩; rw [h5]; clear h5 w5)); try simp only [Act.put, List.setIfInBounds_toArray, List.set_cons_succ, List.set_cons_zero])
  go_ret
  exact ⟨rfl, b4⟩
end Go.Proofs.YtkgenageeiaacaaDoor
