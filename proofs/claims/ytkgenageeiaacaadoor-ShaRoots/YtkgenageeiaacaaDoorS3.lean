/-
  Contract of package sha's take.
  Conditions: the steps' numbers are as the program's text lays them.
-/
import Derived.Test.YtkgenageeiaacaaDoorS2
import Derived.Lib.LaidTab
namespace Go.Proofs.YtkgenageeiaacaaDoor
open Go.RowKit

/-- The first and the steps' numbers are as the program's text lays them. -/
def Tf (w : World) : Prop := Lib.TabIs Tryd.prog w "entail/sha.first" .u32 (firstL.map fun n : Nat => (n : Int))
def Tt (w : World) : Prop := Lib.TabIs Tryd.prog w "entail/sha.steps" .u32 (stepsL.map fun n : Nat => (n : Int))
structure Tabs (w : World) : Prop where
  f : Tf w
  s : Tt w
theorem tab_gr {w w' : World} {name : String} {k : IntKind} {zs : List Int} {g : Nat} (hg : Tryd.prog.globalNamed name = some g) (h : Lib.TabIs Tryd.prog w name k zs) (hb : Gr w w') : Lib.TabIs Tryd.prog w' name k zs := by
  unfold Lib.TabIs World.var? at *
  simp only [hg, Option.bind_some] at h ⊢
  have hlt : g < w.heap.size := by
    rcases Nat.lt_or_ge g w.heap.size with h' | h'
    · exact h'
    · rw [Array.getElem?_eq_none h'] at h; simp at h
  rw [Below.block hb _ hlt]
  exact h
theorem Tabs.gr {w w' : World} (h : Tabs w) (hb : Gr w w') : Tabs w' := ⟨tab_gr (by kernel_rfl : Tryd.prog.globalNamed "entail/sha.first" = some 0) h.f hb, tab_gr (by kernel_rfl : Tryd.prog.globalNamed "entail/sha.steps" = some 1) h.s hb⟩
theorem tab_at (l : List Nat) (k : Nat) (hk : k < l.length) : (l.map fun n : Nat => (n : Int)).getD k 0 = ((at32 l k : Nat) : Int) := by
  simp [List.getD_eq_getElem?_getD, at32, hk]
theorem Tabs.step {w : World} (h : Tabs w) (k : Nat) (hk : k < 64) : w.cell? ⟨1, k, none⟩ = some (.int .u32 ((at32 stepsL k : Nat) : Int)) := by
  have := Lib.TabIs.cell h.s (by kernel_rfl : Tryd.prog.globalNamed "entail/sha.steps" = some 1) k (by rw [List.length_map]; exact hk)
  rw [this, tab_at _ _ hk]
theorem Tabs.first {w : World} (h : Tabs w) (k : Nat) (hk : k < 8) : w.cell? ⟨0, k, none⟩ = some (.int .u32 ((at32 firstL k : Nat) : Int)) := by
  have := Lib.TabIs.cell h.f (by kernel_rfl : Tryd.prog.globalNamed "entail/sha.first" = some 0) k (by rw [List.length_map]; exact hk)
  rw [this, tab_at _ _ hk]

section
variable {P : Program} {A E : TypeId} {N : Nat} {z : Value} {ρ : Operand → Value} {o : Oper} {w : World}
theorem exec_index_arr (t : AT P A E N z) (x y : Operand) (ho : o.op = .index A x y) (cs : List Value) (i : Nat) (k : IntKind) (v : Value) (hc : cs.length = N) (hv : cs[i]? = some v) (u : Int) (hu : u = (i : Int)) (hx : ρ x = .agg cs.toArray) (hy : ρ y = .int k u) :
    (execOp ρ o).run P w = .ok (.value v) w := by
  subst hu
  obtain ⟨hi, rfl⟩ := List.getElem?_eq_some_iff.1 hv
  unfold execOp
  simp only [ho, hx, hy, Sem.run_bind, Sem.run_pure, Result.andThen_ok, run_index_arr t w cs i k hc (by omega)]
theorem exec_build8 (t : AT P A E 8 z) (y0 y1 y2 y3 y4 y5 y6 y7 : Operand) (ho : o.op = .build A #[(0, y0), (1, y1), (2, y2), (3, y3), (4, y4), (5, y5), (6, y6), (7, y7)])
    (n0 n1 n2 n3 n4 n5 n6 n7 : Nat) (h0 : ρ y0 = .int .u32 n0) (h1 : ρ y1 = .int .u32 n1) (h2 : ρ y2 = .int .u32 n2) (h3 : ρ y3 = .int .u32 n3) (h4 : ρ y4 = .int .u32 n4) (h5 : ρ y5 = .int .u32 n5) (h6 : ρ y6 = .int .u32 n6) (h7 : ρ y7 = .int .u32 n7) (l : List Nat) (hl : [n0, n1, n2, n3, n4, n5, n6, n7] = l) :
    (execOp ρ o).run P w = .ok (.value (.agg (c32 l).toArray)) w := by
  subst hl
  obtain ⟨i, hi, hz, hs⟩ := t.parts
  obtain ⟨j, hj, hs'⟩ := t.elem
  have h : (Instr.build A #[(0, .int .u32 (n0 : Int)), (1, .int .u32 (n1 : Int)), (2, .int .u32 (n2 : Int)), (3, .int .u32 (n3 : Int)), (4, .int .u32 (n4 : Int)), (5, .int .u32 (n5 : Int)), (6, .int .u32 (n6 : Int)), (7, .int .u32 (n7 : Int))]).run P w = .ok (.agg (c32 [n0, n1, n2, n3, n4, n5, n6, n7]).toArray) w := by
    simp [Instr.build, zeroValue, typeInfo, hi, hz, run_underlying t.ar, sizeOf, hj, hs', Instr.fill, Value.cells, List.replicate, c32]
  unfold execOp
  simp only [ho, List.map_toArray, List.map_cons, List.map_nil, h0, h1, h2, h3, h4, h5, h6, h7, Sem.run_bind, Sem.run_pure, Result.andThen_ok, h]
/-- *p, an array that lies anywhere -/
theorem exec_load_cells (t : AT P A E N z) (x : Operand) (ho : o.op = .load A x) (g off : Nat) (cs : List Value) (hc : cs.length = N) (h : ∀ j v, cs[j]? = some v → w.cell? ⟨g, off + j, none⟩ = some v) (hx : ρ x = .pointer (some ⟨g, off, none⟩)) :
    (execOp ρ o).run P w = .ok (.value (.agg cs.toArray)) w := by
  obtain ⟨i, hi, hz, hs⟩ := t.parts
  have h1 := run_loadCells_list (P := P) w ⟨g, off, none⟩ cs (fun j v hv => by rw [Addr.add_lit]; exact h j v hv)
  rw [hc] at h1
  have h2 : (Instr.loadAt A (.pointer (some ⟨g, off, none⟩))).run P w = .ok (.agg cs.toArray) w := by
    simp [Instr.loadAt, Instr.sureAddr, loadVar, isAgg, run_underlying t.ar, sizeOf, typeInfo, hi, hs, h1]
  unfold execOp
  simp only [ho, hx, Sem.run_bind, Sem.run_pure, Result.andThen_ok, h2]
end
theorem zeros8 : List.replicate 8 (Value.int .u32 0) = c32 (List.replicate 8 0) := rfl
theorem list8 (v : List Nat) (h : v.length = 8) : v = [at32 v 0, at32 v 1, at32 v 2, at32 v 3, at32 v 4, at32 v 5, at32 v 6, at32 v 7] := by
  match v, h with
  | [_, _, _, _, _, _, _, _], _ => rfl

set_option maxRecDepth 20000 in
set_option maxHeartbeats 1000000 in
theorem take_any (n : List Nat) (hn : n.length = 8) (B : Nat) (v : Value) (b : List UInt8) (w : World) (h : Rd B w v b) (hb : b.length = 64) (ht : Tabs w) :
    Calls Tryd.prog 29 #[.agg (c32 n).toArray, v] w fun e w' => e = .returned (.agg (c32 (tk n b)).toArray) ∧ Below w.heap.size w w' := by
  have HSP : Hid (∀ w', Below w.heap.size w w' → Calls Tryd.prog 33 #[v] w' fun e w'' => e = .returned (.agg (c32 (ws b 64)).toArray) ∧ Below w'.heap.size w' w'') := fun w' hw' => spread_any _ v b w' (h.self.below hw') hb
  have HT : Hid (Tabs w) := ht
  have HTK : Hid (tk n b = adds n (rnT stepsL (ws b 64) n 64) 8) := by show _ = _; unfold tk; rfl
  have HWL : Hid ((ws b 64).length = 64) := ws_length b 64
  have HNL : Hid (n.length = 8) := hn
  have HCL : Hid ((c32 n).length = 8) := by show _ = _; rw [c32_length, hn]
  obtain ⟨W, eW⟩ : ∃ W, ws b 64 = W := ⟨_, rfl⟩
  rw [eW] at HSP HTK HWL
  have HCW : Hid ((c32 W).length = 64) := by show _ = _; rw [c32_length]; exact HWL.out
  clear h hb ht hn eW
  have m := Mem.start w
  go_enter Tryd.func29, Tryd.ntmps29
  go_wp2_with ((first
    | (refine wpList_box_mem m rfl _ (.tmp 0) rfl (c32 n) rfl ?_; clear m; intro g2 wx2 m)
    | (refine wpList_alloc_mem Tryd.a8 m rfl rfl 4 rfl _ zeros8 ?_; clear m; intro g4 wx4 m)
    | (go_at_call 33; refine (HSP.out _ m.below).mono ?_; rintro e wx6 ⟨rfl, b6⟩; replace m := m.gr b6; clear b6 HSP)
    | (refine wpList_alloc_mem Tryd.a64 m rfl rfl 5 rfl _ zeros64 ?_; clear m; intro g5 wx5 m)
    | (refine wpList_store_mem Tryd.a64 m rfl (.tmp 5) (.tmp 21) rfl rfl 0 (c32 W) rfl rfl HCW.out (c32_one _) rfl rfl ?_; clear m; intro wx7 m)); try simp only [Act.put, List.setIfInBounds_toArray, List.set_cons_succ, List.set_cons_zero])
  replace m := m.gr (Below.drewN' _ _ 1)
  refine Seq.wp_region (fun _ => True) [0, 1, 0, 1, 0, 1, 0, 1, 0, 0, 0, 0] (by kernel_rfl) (by kernel_rfl) (by kernel_rfl) (trivial) ?_
  refine Seq.st rfl rfl (.pointer (some ⟨g2, 0, none⟩)) (fun w' hC => exec_indexAt_arr Tryd.a8 (.tmp 2) (.const (.int .i64 0)) rfl g2 0 .i64 0 rfl (by decide) rfl rfl) ?_
  simp only [Act.put, List.setIfInBounds_toArray, List.set_cons_succ, List.set_cons_zero]
  refine Seq.rd rfl rfl (.int .u32 ((at32 n 0 : Nat) : Int)) (exec_cell Tryd.u32 (.tmp 22) rfl g2 0 (.int .u32 ((at32 n 0 : Nat) : Int)) (cell_of_arr (m.get 2 rfl) (c32_get (by rw [HNL.out]; decide))) rfl) ?_
  simp only [Act.put, List.setIfInBounds_toArray, List.set_cons_succ, List.set_cons_zero]
  refine Seq.st rfl rfl (.pointer (some ⟨g2, 1, none⟩)) (fun w' hC => exec_indexAt_arr Tryd.a8 (.tmp 2) (.const (.int .i64 1)) rfl g2 1 .i64 1 rfl (by decide) rfl rfl) ?_
  simp only [Act.put, List.setIfInBounds_toArray, List.set_cons_succ, List.set_cons_zero]
  refine Seq.rd rfl rfl (.int .u32 ((at32 n 1 : Nat) : Int)) (exec_cell Tryd.u32 (.tmp 24) rfl g2 1 (.int .u32 ((at32 n 1 : Nat) : Int)) (cell_of_arr (m.get 2 rfl) (c32_get (by rw [HNL.out]; decide))) rfl) ?_
  simp only [Act.put, List.setIfInBounds_toArray, List.set_cons_succ, List.set_cons_zero]
  refine Seq.st rfl rfl (.pointer (some ⟨g2, 2, none⟩)) (fun w' hC => exec_indexAt_arr Tryd.a8 (.tmp 2) (.const (.int .i64 2)) rfl g2 2 .i64 2 rfl (by decide) rfl rfl) ?_
  simp only [Act.put, List.setIfInBounds_toArray, List.set_cons_succ, List.set_cons_zero]
  refine Seq.rd rfl rfl (.int .u32 ((at32 n 2 : Nat) : Int)) (exec_cell Tryd.u32 (.tmp 26) rfl g2 2 (.int .u32 ((at32 n 2 : Nat) : Int)) (cell_of_arr (m.get 2 rfl) (c32_get (by rw [HNL.out]; decide))) rfl) ?_
  simp only [Act.put, List.setIfInBounds_toArray, List.set_cons_succ, List.set_cons_zero]
  refine Seq.st rfl rfl (.pointer (some ⟨g2, 3, none⟩)) (fun w' hC => exec_indexAt_arr Tryd.a8 (.tmp 2) (.const (.int .i64 3)) rfl g2 3 .i64 3 rfl (by decide) rfl rfl) ?_
  simp only [Act.put, List.setIfInBounds_toArray, List.set_cons_succ, List.set_cons_zero]
  refine Seq.rd rfl rfl (.int .u32 ((at32 n 3 : Nat) : Int)) (exec_cell Tryd.u32 (.tmp 28) rfl g2 3 (.int .u32 ((at32 n 3 : Nat) : Int)) (cell_of_arr (m.get 2 rfl) (c32_get (by rw [HNL.out]; decide))) rfl) ?_
  simp only [Act.put, List.setIfInBounds_toArray, List.set_cons_succ, List.set_cons_zero]
  refine Seq.st rfl rfl (.int .u32 ((at32 n 0 : Nat) : Int)) (fun w' hC => exec_move (.tmp 23) (.inr rfl) _ rfl) ?_
  simp only [Act.put, List.setIfInBounds_toArray, List.set_cons_succ, List.set_cons_zero]
  refine Seq.st rfl rfl (.int .u32 ((at32 n 1 : Nat) : Int)) (fun w' hC => exec_move (.tmp 25) (.inr rfl) _ rfl) ?_
  simp only [Act.put, List.setIfInBounds_toArray, List.set_cons_succ, List.set_cons_zero]
  refine Seq.st rfl rfl (.int .u32 ((at32 n 2 : Nat) : Int)) (fun w' hC => exec_move (.tmp 27) (.inr rfl) _ rfl) ?_
  simp only [Act.put, List.setIfInBounds_toArray, List.set_cons_succ, List.set_cons_zero]
  refine Seq.st rfl rfl (.int .u32 ((at32 n 3 : Nat) : Int)) (fun w' hC => exec_move (.tmp 29) (.inr rfl) _ rfl) ?_
  simp only [Act.put, List.setIfInBounds_toArray, List.set_cons_succ, List.set_cons_zero]
  refine Seq.fin ?_
  go_wp2
  replace m := m.gr (Below.drewN' _ _ 1)
  refine Seq.wp_region (fun _ => True) [0, 1, 0, 1, 0, 1, 0, 1, 0, 0, 0, 0] (by kernel_rfl) (by kernel_rfl) (by kernel_rfl) (trivial) ?_
  refine Seq.st rfl rfl (.pointer (some ⟨g2, 4, none⟩)) (fun w' hC => exec_indexAt_arr Tryd.a8 (.tmp 2) (.const (.int .i64 4)) rfl g2 4 .i64 4 rfl (by decide) rfl rfl) ?_
  simp only [Act.put, List.setIfInBounds_toArray, List.set_cons_succ, List.set_cons_zero]
  refine Seq.rd rfl rfl (.int .u32 ((at32 n 4 : Nat) : Int)) (exec_cell Tryd.u32 (.tmp 30) rfl g2 4 (.int .u32 ((at32 n 4 : Nat) : Int)) (cell_of_arr (m.get 2 rfl) (c32_get (by rw [HNL.out]; decide))) rfl) ?_
  simp only [Act.put, List.setIfInBounds_toArray, List.set_cons_succ, List.set_cons_zero]
  refine Seq.st rfl rfl (.pointer (some ⟨g2, 5, none⟩)) (fun w' hC => exec_indexAt_arr Tryd.a8 (.tmp 2) (.const (.int .i64 5)) rfl g2 5 .i64 5 rfl (by decide) rfl rfl) ?_
  simp only [Act.put, List.setIfInBounds_toArray, List.set_cons_succ, List.set_cons_zero]
  refine Seq.rd rfl rfl (.int .u32 ((at32 n 5 : Nat) : Int)) (exec_cell Tryd.u32 (.tmp 32) rfl g2 5 (.int .u32 ((at32 n 5 : Nat) : Int)) (cell_of_arr (m.get 2 rfl) (c32_get (by rw [HNL.out]; decide))) rfl) ?_
  simp only [Act.put, List.setIfInBounds_toArray, List.set_cons_succ, List.set_cons_zero]
  refine Seq.st rfl rfl (.pointer (some ⟨g2, 6, none⟩)) (fun w' hC => exec_indexAt_arr Tryd.a8 (.tmp 2) (.const (.int .i64 6)) rfl g2 6 .i64 6 rfl (by decide) rfl rfl) ?_
  simp only [Act.put, List.setIfInBounds_toArray, List.set_cons_succ, List.set_cons_zero]
  refine Seq.rd rfl rfl (.int .u32 ((at32 n 6 : Nat) : Int)) (exec_cell Tryd.u32 (.tmp 34) rfl g2 6 (.int .u32 ((at32 n 6 : Nat) : Int)) (cell_of_arr (m.get 2 rfl) (c32_get (by rw [HNL.out]; decide))) rfl) ?_
  simp only [Act.put, List.setIfInBounds_toArray, List.set_cons_succ, List.set_cons_zero]
  refine Seq.st rfl rfl (.pointer (some ⟨g2, 7, none⟩)) (fun w' hC => exec_indexAt_arr Tryd.a8 (.tmp 2) (.const (.int .i64 7)) rfl g2 7 .i64 7 rfl (by decide) rfl rfl) ?_
  simp only [Act.put, List.setIfInBounds_toArray, List.set_cons_succ, List.set_cons_zero]
  refine Seq.rd rfl rfl (.int .u32 ((at32 n 7 : Nat) : Int)) (exec_cell Tryd.u32 (.tmp 36) rfl g2 7 (.int .u32 ((at32 n 7 : Nat) : Int)) (cell_of_arr (m.get 2 rfl) (c32_get (by rw [HNL.out]; decide))) rfl) ?_
  simp only [Act.put, List.setIfInBounds_toArray, List.set_cons_succ, List.set_cons_zero]
  refine Seq.st rfl rfl (.int .u32 ((at32 n 4 : Nat) : Int)) (fun w' hC => exec_move (.tmp 31) (.inr rfl) _ rfl) ?_
  simp only [Act.put, List.setIfInBounds_toArray, List.set_cons_succ, List.set_cons_zero]
  refine Seq.st rfl rfl (.int .u32 ((at32 n 5 : Nat) : Int)) (fun w' hC => exec_move (.tmp 33) (.inr rfl) _ rfl) ?_
  simp only [Act.put, List.setIfInBounds_toArray, List.set_cons_succ, List.set_cons_zero]
  refine Seq.st rfl rfl (.int .u32 ((at32 n 6 : Nat) : Int)) (fun w' hC => exec_move (.tmp 35) (.inr rfl) _ rfl) ?_
  simp only [Act.put, List.setIfInBounds_toArray, List.set_cons_succ, List.set_cons_zero]
  refine Seq.st rfl rfl (.int .u32 ((at32 n 7 : Nat) : Int)) (fun w' hC => exec_move (.tmp 37) (.inr rfl) _ rfl) ?_
  simp only [Act.put, List.setIfInBounds_toArray, List.set_cons_succ, List.set_cons_zero]
  refine Seq.fin ?_
  go_wp2_with ((first
    | (refine wpList_load_mem Tryd.a64 m rfl (.tmp 5) rfl 0 rfl HCW.out rfl ?_)); try simp only [Act.put, List.setIfInBounds_toArray, List.set_cons_succ, List.set_cons_zero])
  go_loopw [6, 7, 8, 9, 10, 11, 12, 13, 39] (fun a b c d e f g h i wr => ∃ t : Nat, t ≤ 64 ∧ i = .int .i64 (t : Int) ∧ a = .int .u32 ((at32 (rnT stepsL W n t) 0 : Nat) : Int) ∧ b = .int .u32 ((at32 (rnT stepsL W n t) 1 : Nat) : Int) ∧ c = .int .u32 ((at32 (rnT stepsL W n t) 2 : Nat) : Int) ∧ d = .int .u32 ((at32 (rnT stepsL W n t) 3 : Nat) : Int) ∧ e = .int .u32 ((at32 (rnT stepsL W n t) 4 : Nat) : Int) ∧ f = .int .u32 ((at32 (rnT stepsL W n t) 5 : Nat) : Int) ∧ g = .int .u32 ((at32 (rnT stepsL W n t) 6 : Nat) : Int) ∧ h = .int .u32 ((at32 (rnT stepsL W n t) 7 : Nat) : Int) ∧ Mem w wr [⟨g5, 54, c32 W⟩, ⟨g4, 44, c32 (List.replicate 8 0)⟩, ⟨g2, 44, c32 n⟩]) (fun _ _ _ _ _ _ _ _ i _ => 64 - (intOf i).toNat)
  case atStart => exact ⟨0, by omega, rfl, rfl, rfl, rfl, rfl, rfl, rfl, rfl, rfl, m⟩
  case round =>
    clear m
    obtain ⟨t, hk, rfl, rfl, rfl, rfl, rfl, rfl, rfl, rfl, rfl, m⟩ := hrel
    by_cases hlt : t < 64
    · have HLT : Hid (t < 64) := hlt
      have HR : Hid (rnT stepsL W n (t + 1) = rnd (rnT stepsL W n t) (at32 stepsL t) (at32 W t)) := rfl
      have HX : Hid ((c32 W)[t]? = some (.int .u32 ((at32 W t : Nat) : Int))) := c32_get (by rw [HWL.out]; exact hlt)
      obtain ⟨V, eV⟩ : ∃ V, rnT stepsL W n t = V := ⟨_, rfl⟩
      rw [eV] at HR ⊢
      obtain ⟨x, ex⟩ : ∃ x, at32 W t = x := ⟨_, rfl⟩
      rw [ex] at HR HX
      obtain ⟨k, ek⟩ : ∃ x, at32 stepsL t = x := ⟨_, rfl⟩
      have HK : Hid (∀ w, Tabs w → w.cell? ⟨1, t, none⟩ = some (.int .u32 ((k : Nat) : Int))) := fun w hw => by rw [hw.step t hlt, ek]
      rw [ek] at HR
      obtain ⟨A, eA⟩ : ∃ x, at32 V 0 = x := ⟨_, rfl⟩
      obtain ⟨Bb, eBb⟩ : ∃ x, at32 V 1 = x := ⟨_, rfl⟩
      obtain ⟨C, eC⟩ : ∃ x, at32 V 2 = x := ⟨_, rfl⟩
      obtain ⟨D, eD⟩ : ∃ x, at32 V 3 = x := ⟨_, rfl⟩
      obtain ⟨E, eE⟩ : ∃ x, at32 V 4 = x := ⟨_, rfl⟩
      obtain ⟨F, eF⟩ : ∃ x, at32 V 5 = x := ⟨_, rfl⟩
      obtain ⟨G, eG⟩ : ∃ x, at32 V 6 = x := ⟨_, rfl⟩
      obtain ⟨H, eH⟩ : ∃ x, at32 V 7 = x := ⟨_, rfl⟩
      have HRN : Hid (rnT stepsL W n (t + 1) = [ad (ad (ad (ad (ad H (tn 6 11 25 E)) (xo (an E F) (an (xo E 4294967295) G))) k) x) (ad (tn 2 13 22 A) (xo (xo (an A Bb) (an A C)) (an Bb C))), A, Bb, C, ad D (ad (ad (ad (ad H (tn 6 11 25 E)) (xo (an E F) (an (xo E 4294967295) G))) k) x), E, F, G]) := by show _ = _; rw [HR.out]; unfold rnd tA tB; rw [eA, eBb, eC, eD, eE, eF, eG, eH]
      rw [eA, eBb, eC, eD, eE, eF, eG, eH]
      have HT1 : Hid (∀ w : World, Calls Tryd.prog 34 #[.int .u32 (E : Int), .int .i64 6, .int .i64 11, .int .i64 25] w fun e w' => e = .returned (.int .u32 ((tn 6 11 25 E : Nat) : Int)) ∧ w' = w) := fun w => turned_any 6 11 25 E (by decide) w
      have HT2 : Hid (∀ w : World, Calls Tryd.prog 34 #[.int .u32 (A : Int), .int .i64 2, .int .i64 13, .int .i64 22] w fun e w' => e = .returned (.int .u32 ((tn 2 13 22 A : Nat) : Int)) ∧ w' = w) := fun w => turned_any 2 13 22 A (by decide) w
      clear HR eV ex ek eA eBb eC eD eE eF eG eH
      go_wp2_with ((first
        | (refine wpList_val rfl (.int .u32 ((x : Nat) : Int)) (exec_index_arr Tryd.a64 (.tmp 38) (.tmp 39) rfl (c32 W) t .i64 _ HCW.out HX.out _ rfl rfl rfl) ?_)); try simp only [Act.put, List.setIfInBounds_toArray, List.set_cons_succ, List.set_cons_zero])
      replace m := m.gr (Below.drewN' _ _ 1)
      refine Seq.wp_region (fun w' => Gr w w') [0, 0, 2, 0, 0, 0, 0, 0, 0, 0, 0, 0, 0, 0, 0, 0, 0, 0, 0, 0] (by kernel_rfl) (by kernel_rfl) (by kernel_rfl) (m.below) ?_
      refine Seq.st rfl rfl (.int .u32 ((H : Nat) : Int)) (fun w' hC => exec_move (.tmp 13) (.inl rfl) _ rfl) ?_
      simp only [Act.put, List.setIfInBounds_toArray, List.set_cons_succ, List.set_cons_zero]
      refine Seq.st rfl rfl (.int .u32 ((E : Nat) : Int)) (fun w' hC => exec_move (.tmp 10) (.inl rfl) _ rfl) ?_
      simp only [Act.put, List.setIfInBounds_toArray, List.set_cons_succ, List.set_cons_zero]
      refine Seq.ef rfl rfl ?_
      refine wpList_callc rfl 34 #[.int .u32 (E : Int), .int .i64 6, .int .i64 11, .int .i64 25] (by go_simp) (HT1.out _) ?_
      rintro e w7 ⟨rfl, rfl⟩
      clear HT1
      refine Seq.done (m.below) ?_
      try simp only [Act.put, List.setIfInBounds_toArray, List.set_cons_succ, List.set_cons_zero]
      refine Seq.st rfl rfl (.int .u32 ((ad H (tn 6 11 25 E) : Nat) : Int)) (fun w' hC => exec_ad (.tmp 43) (.tmp 45) _ _ rfl H (tn 6 11 25 E) rfl rfl) ?_
      simp only [Act.put, List.setIfInBounds_toArray, List.set_cons_succ, List.set_cons_zero]
      refine Seq.st rfl rfl (.int .u32 ((E : Nat) : Int)) (fun w' hC => exec_move (.tmp 10) (.inl rfl) _ rfl) ?_
      simp only [Act.put, List.setIfInBounds_toArray, List.set_cons_succ, List.set_cons_zero]
      refine Seq.st rfl rfl (.int .u32 ((F : Nat) : Int)) (fun w' hC => exec_move (.tmp 11) (.inl rfl) _ rfl) ?_
      simp only [Act.put, List.setIfInBounds_toArray, List.set_cons_succ, List.set_cons_zero]
      refine Seq.st rfl rfl (.int .u32 ((an E F : Nat) : Int)) (fun w' hC => exec_an (.tmp 47) (.tmp 48) _ _ rfl E F rfl rfl) ?_
      simp only [Act.put, List.setIfInBounds_toArray, List.set_cons_succ, List.set_cons_zero]
      refine Seq.st rfl rfl (.int .u32 ((E : Nat) : Int)) (fun w' hC => exec_move (.tmp 10) (.inl rfl) _ rfl) ?_
      simp only [Act.put, List.setIfInBounds_toArray, List.set_cons_succ, List.set_cons_zero]
      refine Seq.st rfl rfl (.int .u32 ((xo E 4294967295 : Nat) : Int)) (fun w' hC => exec_not (.tmp 50) _ rfl E rfl) ?_
      simp only [Act.put, List.setIfInBounds_toArray, List.set_cons_succ, List.set_cons_zero]
      refine Seq.st rfl rfl (.int .u32 ((G : Nat) : Int)) (fun w' hC => exec_move (.tmp 12) (.inl rfl) _ rfl) ?_
      simp only [Act.put, List.setIfInBounds_toArray, List.set_cons_succ, List.set_cons_zero]
      refine Seq.st rfl rfl (.int .u32 ((an (xo E 4294967295) G : Nat) : Int)) (fun w' hC => exec_an (.tmp 51) (.tmp 52) _ _ rfl (xo E 4294967295) G rfl rfl) ?_
      simp only [Act.put, List.setIfInBounds_toArray, List.set_cons_succ, List.set_cons_zero]
      refine Seq.st rfl rfl (.int .u32 ((xo (an E F) (an (xo E 4294967295) G) : Nat) : Int)) (fun w' hC => exec_xo (.tmp 49) (.tmp 53) _ _ rfl (an E F) (an (xo E 4294967295) G) rfl rfl) ?_
      simp only [Act.put, List.setIfInBounds_toArray, List.set_cons_succ, List.set_cons_zero]
      refine Seq.st rfl rfl (.int .u32 ((ad (ad H (tn 6 11 25 E)) (xo (an E F) (an (xo E 4294967295) G)) : Nat) : Int)) (fun w' hC => exec_ad (.tmp 46) (.tmp 54) _ _ rfl (ad H (tn 6 11 25 E)) (xo (an E F) (an (xo E 4294967295) G)) rfl rfl) ?_
      simp only [Act.put, List.setIfInBounds_toArray, List.set_cons_succ, List.set_cons_zero]
      refine Seq.st rfl rfl (.int .i64 ((t : Nat) : Int)) (fun w' hC => exec_move (.tmp 14) (.inl rfl) _ rfl) ?_
      simp only [Act.put, List.setIfInBounds_toArray, List.set_cons_succ, List.set_cons_zero]
      refine Seq.st rfl rfl (.pointer (some ⟨1, t, none⟩)) (fun w' hC => exec_indexAt_arr Tryd.a64 (.global 1) (.tmp 56) rfl 1 t .i64 _ rfl HLT.out rfl rfl) ?_
      simp only [Act.put, List.setIfInBounds_toArray, List.set_cons_succ, List.set_cons_zero]
      refine Seq.st rfl rfl (.int .u32 ((k : Nat) : Int)) (fun w' hC => exec_cell Tryd.u32 (.tmp 57) rfl 1 t (.int .u32 ((k : Nat) : Int)) (HK.out _ (HT.out.gr hC)) rfl) ?_
      simp only [Act.put, List.setIfInBounds_toArray, List.set_cons_succ, List.set_cons_zero]
      refine Seq.st rfl rfl (.int .u32 ((ad (ad (ad H (tn 6 11 25 E)) (xo (an E F) (an (xo E 4294967295) G))) k : Nat) : Int)) (fun w' hC => exec_ad (.tmp 55) (.tmp 58) _ _ rfl (ad (ad H (tn 6 11 25 E)) (xo (an E F) (an (xo E 4294967295) G))) k rfl rfl) ?_
      simp only [Act.put, List.setIfInBounds_toArray, List.set_cons_succ, List.set_cons_zero]
      refine Seq.st rfl rfl (.int .u32 ((x : Nat) : Int)) (fun w' hC => exec_move (.tmp 15) (.inl rfl) _ rfl) ?_
      simp only [Act.put, List.setIfInBounds_toArray, List.set_cons_succ, List.set_cons_zero]
      refine Seq.st rfl rfl (.int .u32 ((ad (ad (ad (ad H (tn 6 11 25 E)) (xo (an E F) (an (xo E 4294967295) G))) k) x : Nat) : Int)) (fun w' hC => exec_ad (.tmp 59) (.tmp 60) _ _ rfl (ad (ad (ad H (tn 6 11 25 E)) (xo (an E F) (an (xo E 4294967295) G))) k) x rfl rfl) ?_
      simp only [Act.put, List.setIfInBounds_toArray, List.set_cons_succ, List.set_cons_zero]
      refine Seq.st rfl rfl (.int .u32 ((ad (ad (ad (ad H (tn 6 11 25 E)) (xo (an E F) (an (xo E 4294967295) G))) k) x : Nat) : Int)) (fun w' hC => exec_move (.tmp 61) (.inr rfl) _ rfl) ?_
      simp only [Act.put, List.setIfInBounds_toArray, List.set_cons_succ, List.set_cons_zero]
      refine Seq.fin ?_
      go_wp2_with ((first
        | (go_at_call 34; refine (HT2.out _).mono ?_; rintro e w7 ⟨rfl, rfl⟩; clear HT2)
        | (refine wpList_val rfl (.int .u32 ((an A Bb : Nat) : Int)) (exec_an (.tmp 64) (.tmp 65) _ _ rfl A Bb rfl rfl) ?_)
        | (refine wpList_val rfl (.int .u32 ((an A C : Nat) : Int)) (exec_an (.tmp 67) (.tmp 68) _ _ rfl A C rfl rfl) ?_)
        | (refine wpList_val rfl (.int .u32 ((xo (an A Bb) (an A C) : Nat) : Int)) (exec_xo (.tmp 66) (.tmp 69) _ _ rfl (an A Bb) (an A C) rfl rfl) ?_)
        | (refine wpList_val rfl (.int .u32 ((an Bb C : Nat) : Int)) (exec_an (.tmp 71) (.tmp 72) _ _ rfl Bb C rfl rfl) ?_)
        | (refine wpList_val rfl (.int .u32 ((xo (xo (an A Bb) (an A C)) (an Bb C) : Nat) : Int)) (exec_xo (.tmp 70) (.tmp 73) _ _ rfl (xo (an A Bb) (an A C)) (an Bb C) rfl rfl) ?_)
        | (refine wpList_val rfl (.int .u32 ((ad (tn 2 13 22 A) (xo (xo (an A Bb) (an A C)) (an Bb C)) : Nat) : Int)) (exec_ad (.tmp 63) (.tmp 74) _ _ rfl (tn 2 13 22 A) (xo (xo (an A Bb) (an A C)) (an Bb C)) rfl rfl) ?_)
        | (refine wpList_val rfl (.int .u32 ((ad D (ad (ad (ad (ad H (tn 6 11 25 E)) (xo (an E F) (an (xo E 4294967295) G))) k) x) : Nat) : Int)) (exec_ad (.tmp 79) (.tmp 80) _ _ rfl D (ad (ad (ad (ad H (tn 6 11 25 E)) (xo (an E F) (an (xo E 4294967295) G))) k) x) rfl rfl) ?_)
        | (refine wpList_val rfl (.int .u32 ((ad (ad (ad (ad (ad H (tn 6 11 25 E)) (xo (an E F) (an (xo E 4294967295) G))) k) x) (ad (tn 2 13 22 A) (xo (xo (an A Bb) (an A C)) (an Bb C))) : Nat) : Int)) (exec_ad (.tmp 85) (.tmp 86) _ _ rfl (ad (ad (ad (ad H (tn 6 11 25 E)) (xo (an E F) (an (xo E 4294967295) G))) k) x) (ad (tn 2 13 22 A) (xo (xo (an A Bb) (an A C)) (an Bb C))) rfl rfl) ?_)); try simp only [Act.put, List.setIfInBounds_toArray, List.set_cons_succ, List.set_cons_zero])
      go_roundw
      case rel => exact ⟨t + 1, by have := HLT.out; omega, by go_num, by rw [HRN.out]; rfl, by rw [HRN.out]; rfl, by rw [HRN.out]; rfl, by rw [HRN.out]; rfl, by rw [HRN.out]; rfl, by rw [HRN.out]; rfl, by rw [HRN.out]; rfl, by rw [HRN.out]; rfl, m⟩
      case measure => have := HLT.out; simp [intOf]; omega
    · obtain rfl : t = 64 := by omega
      have HVL : Hid ((rnT stepsL W n 64).length = 8) := rnT_length _ _ _ HNL.out 64
      obtain ⟨V, eV⟩ : ∃ V, rnT stepsL W n 64 = V := ⟨_, rfl⟩
      rw [eV] at HTK HVL ⊢
      have H8 : Hid ([at32 V 0, at32 V 1, at32 V 2, at32 V 3, at32 V 4, at32 V 5, at32 V 6, at32 V 7] = V) := (list8 V HVL.out).symm
      have HCV : Hid ((c32 V).length = 8) := by show _ = _; rw [c32_length]; exact HVL.out
      clear eV
      go_wp2_with ((first
        | (refine wpList_val rfl (.agg (c32 V).toArray) (exec_build8 Tryd.a8 (.tmp 89) (.tmp 90) (.tmp 91) (.tmp 92) (.tmp 93) (.tmp 94) (.tmp 95) (.tmp 96) rfl (at32 V 0) (at32 V 1) (at32 V 2) (at32 V 3) (at32 V 4) (at32 V 5) (at32 V 6) (at32 V 7) rfl rfl rfl rfl rfl rfl rfl rfl V H8.out) ?_)); try simp only [Act.put, List.setIfInBounds_toArray, List.set_cons_succ, List.set_cons_zero])
      go_loopw [98] (fun i wr => ∃ k : Nat, k ≤ 8 ∧ i = .int .i64 (k : Int) ∧ Mem w wr [⟨g5, 54, c32 W⟩, ⟨g4, 44, c32 (List.replicate 8 0)⟩, ⟨g2, 44, c32 (adds n V k)⟩]) (fun i _ => 8 - (intOf i).toNat)
      case atStart => exact ⟨0, by omega, rfl, m⟩
      case round =>
        clear m
        obtain ⟨k, hk, rfl, m⟩ := hrel
        have HAL : Hid ((adds n V k).length = 8) := by show _ = _; rw [adds_length]; exact HNL.out
        by_cases hlt : k < 8
        · obtain ⟨x, ex⟩ : ∃ x, at32 V k = x := ⟨_, rfl⟩
          obtain ⟨y, ey⟩ : ∃ x, at32 n k = x := ⟨_, rfl⟩
          have HX : Hid ((c32 V)[k]? = some (.int .u32 ((x : Nat) : Int))) := by show _ = _; rw [c32_get (by rw [HVL.out]; exact hlt), ex]
          have HY : Hid ((c32 (adds n V k))[k]? = some (.int .u32 ((y : Nat) : Int))) := by show _ = _; rw [c32_get (by rw [HAL.out]; exact hlt), adds_at _ _ _ _ (Nat.le_refl _), ey]
          have HS : Hid ((c32 (adds n V k)).set k (.int .u32 ((ad y x : Nat) : Int)) = c32 (adds n V (k + 1))) := by show _ = _; rw [c32_set, ← ex, ← ey]; rfl
          have HB : Hid (k < (c32 (adds n V k)).length) := by show _ < _; rw [c32_length, HAL.out]; exact hlt
          have HLT : Hid (k < 8) := hlt
          clear ex ey
          go_wp2_with ((first
            | (refine wpList_val rfl (.int .u32 ((x : Nat) : Int)) (exec_index_arr Tryd.a8 (.tmp 97) (.tmp 98) rfl (c32 V) k .i64 _ HCV.out HX.out _ rfl rfl rfl) ?_)
            | (refine wpList_val rfl (.pointer (some ⟨g2, k, none⟩)) (exec_indexAt_arr Tryd.a8 (.tmp 2) (.tmp 102) rfl g2 k .i64 _ rfl HLT.out rfl rfl) ?_)
            | (refine wpList_get_mem Tryd.u32 m rfl (.tmp 103) rfl 2 k _ rfl HY.out rfl ?_)
            | (refine wpList_val rfl (.int .u32 ((ad y x : Nat) : Int)) (exec_ad (.tmp 104) (.tmp 105) _ _ rfl y x rfl rfl) ?_)
            | (refine wpList_set_mem m rfl 38 (.tmp 107) (.tmp 106) rfl rfl Tryd.one32 2 k (.int .u32 ((ad y x : Nat) : Int)) (c32 (adds n V (k + 1))) HS.out rfl HB.out rfl rfl rfl ?_; clear m; intro wx9 m)); try simp only [Act.put, List.setIfInBounds_toArray, List.set_cons_succ, List.set_cons_zero])
          go_roundw
          case rel => exact ⟨k + 1, by have := HLT.out; omega, by go_num, m⟩
          case measure => have := HLT.out; simp [intOf]; omega
        · obtain rfl : k = 8 := by omega
          have hl' : (c32 (adds n V 8)).length = 8 := by rw [c32_length]; exact HAL.out
          obtain ⟨L, eL⟩ : ∃ L, adds n V 8 = L := ⟨_, rfl⟩
          rw [eL] at m hl' HTK
          clear eL HAL
          go_wp2_with ((first
            | (refine wpList_load_mem Tryd.a8 m rfl (.tmp 2) rfl 2 rfl hl' rfl ?_)
            | (refine wpList_store_mem Tryd.a8 m rfl (.tmp 4) (.tmp 109) rfl rfl 1 (c32 L) rfl rfl hl' (c32_one _) rfl rfl ?_; clear m; intro wx9 m)); try simp only [Act.put, List.setIfInBounds_toArray, List.set_cons_succ, List.set_cons_zero])
          refine bodyPost_ret (results_arr Tryd.a8 Tryd.results29 _ wx9 g4 (c32 L) hl' rfl (m.get 1 rfl)) rfl ⟨by rw [HTK.out], m.below⟩
end Go.Proofs.YtkgenageeiaacaaDoor
