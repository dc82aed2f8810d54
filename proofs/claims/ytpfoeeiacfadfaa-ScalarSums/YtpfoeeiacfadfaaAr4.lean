/-
  Plain facts on arrays of uint64: a cell read, a cell written, arrays built and compared; and a world in which some blocks turn from one content to another (for statements that draw their order).
  Conditions: each element takes one cell.
-/
import Derived.Test.YtpfoeeiacfadfaaArr
import Derived.Test.YtpfoeeiacfadfaaU64
import Derived.Test.YtpfoeeiacfadfaaMild2
import Derived.Laws.Externs
import Derived.Shelf.Spec.BitsCarry
namespace Go.Proofs.Ytpfoeeiacfadfaa
open Go.RowKit

section
variable {P : Program} {A E : TypeId} {N : Nat} {z : Value}

/-- *p, a cell -/
theorem run_get {F : TypeId} {k : IntKind} (hF : P.underlying F = some (.int k)) {T : TypeId} (w : World) (g i : Nat) (cs : List Value) (v : Value) (hr : Arr T w g cs) (hv : cs[i]? = some v) :
    (Instr.loadAt F (.pointer (some ⟨g, i, none⟩))).run P w = .ok v w := by
  obtain ⟨hi, rfl⟩ := List.getElem?_eq_some_iff.1 hv
  simp [Instr.loadAt, Instr.sureAddr, loadVar, isAgg, run_underlying hF, hr.cell hi]

theorem wpList_get {F : TypeId} {k : IntKind} (hF : P.underlying F = some (.int k)) {w : World} {ops : Array Oper} {rest : List Oper} {o : Oper} {a : Act} {Q : Exit → Act → World → Prop} (hgd : o.guard = none) (x : Operand) (ho : o.op = .load F x)
    {T : TypeId} (g i : Nat) (cs : List Value) (v : Value) (hr : Arr T w g cs) (hv : cs[i]? = some v) (hx : a.eval x = .pointer (some ⟨g, i, none⟩))
    (h : wpList P ops Q rest (a.put o.dst v) w) : wpList P ops Q (o :: rest) a w := by
  refine wpList_plain hgd fun K hK => ?_
  unfold Oper.wp execOp
  simp only [ho, hx, Sem.run_bind, Sem.run_pure, Result.andThen_ok, run_get hF w g i cs v hr hv]
  exact hK _ _ h

theorem exec_get {F : TypeId} {k : IntKind} (hF : P.underlying F = some (.int k)) {ρ : Operand → Value} {o : Oper} {w : World} (x : Operand) (ho : o.op = .load F x) {T : TypeId} (g i : Nat) (cs : List Value) (v : Value) (hr : Arr T w g cs) (hv : cs[i]? = some v)
    (hx : ρ x = .pointer (some ⟨g, i, none⟩)) : (execOp ρ o).run P w = .ok (.value v) w := by
  unfold execOp
  simp only [ho, hx, Sem.run_bind, Sem.run_pure, Result.andThen_ok, run_get hF w g i cs v hr hv]

theorem exec_indexAt_arr (t : AT P A E N z) {ρ : Operand → Value} {o : Oper} {w : World} (x y : Operand) (ho : o.op = .indexAddr A x y)
    (g i : Nat) (k : IntKind) (u : Int) (hu : u = (i : Int)) (hi : i < N) (hx : ρ x = .pointer (some ⟨g, 0, none⟩)) (hy : ρ y = .int k u) :
    (execOp ρ o).run P w = .ok (.value (.pointer (some ⟨g, i, none⟩))) w := by
  subst hu
  unfold execOp
  simp only [ho, hx, hy, Sem.run_bind, Sem.run_pure, Result.andThen_ok, run_indexAt_arr t w g i k hi]

/-- *p = y, whole -/
theorem exec_store_arr (t : AT P A E N z) {ρ : Operand → Value} {o : Oper} {w : World} (x y : Operand) (ho : o.op = .store A x y)
    (g : Nat) (cs ds : List Value) (hc : cs.length = N) (hds : ds.length = N) (h1 : ∀ v ∈ ds, v.oneCell' = true) (hx : ρ x = .pointer (some ⟨g, 0, none⟩)) (hy : ρ y = .agg ds.toArray) (hr : Arr A w g cs) :
    (execOp ρ o).run P w = .ok .skip (w.setRow g ds.toArray) ∧ Arr A (w.setRow g ds.toArray) g ds := by
  obtain ⟨i, hi, hz, hs⟩ := t.parts
  have hst := run_storeCells_at P g 0 A ds 0 cs.toArray w hr (by simp [hc, hds]) h1
  have e : (cs.toArray.toList.take (0 + 0) ++ ds ++ cs.toArray.toList.drop (0 + 0 + ds.length)) = ds := by simp [hc, hds]
  rw [e] at hst
  refine ⟨?_, setRow_heap w g _ _ A _ hr⟩
  unfold execOp
  simp only [ho, hx, hy, Instr.storeAt, Instr.sureAddr, storeVar, sizeOf, typeInfo, hi, hs, Value.cells, Sem.run_bind, Sem.run_pure, Result.andThen_ok, run_program, List.size_toArray, hds, ne_eq, not_true_eq_false, if_false, hst]

/-- p[i] = y -/
theorem exec_store_cell {ρ : Operand → Value} {o : Oper} {w : World} (F : TypeId) (x y : Operand) (ho : o.op = .store F x y) (hF : (P.info? F).map (·.size) = some 1)
    (g i : Nat) (cs : List Value) (u : Value) (hi : i < cs.length) (h1 : u.oneCell' = true) (hx : ρ x = .pointer (some ⟨g, i, none⟩)) (hy : ρ y = u) (T : TypeId) (hr : Arr T w g cs) :
    (execOp ρ o).run P w = .ok .skip (w.setRow g (cs.set i u).toArray) ∧ Arr T (w.setRow g (cs.set i u).toArray) g (cs.set i u) := by
  obtain ⟨j, hj, hs⟩ := Option.map_eq_some_iff.1 hF
  have hst := run_storeCells_at P g i T [u] 0 cs.toArray w hr (by simp; omega) (by simpa using h1)
  have e : (cs.toArray.toList.take (i + 0) ++ [u] ++ cs.toArray.toList.drop (i + 0 + [u].length)) = cs.set i u := by
    rw [List.set_eq_take_append_cons_drop]; simp [hi]
  rw [e] at hst
  have hu : u.cells = #[u] := by cases u <;> first | rfl | (simp [Value.oneCell'] at h1)
  refine ⟨?_, setRow_heap w g _ _ T _ hr⟩
  unfold execOp
  simp only [ho, hx, hy, Instr.storeAt, Instr.sureAddr, storeVar, sizeOf, typeInfo, hj, hs, hu, Sem.run_bind, Sem.run_pure, Result.andThen_ok, run_program, List.size_toArray, List.length_cons, List.length_nil, Nat.zero_add, ne_eq, not_true_eq_false, if_false, hst]

/-- var x A, in a statement that draws -/
theorem exec_alloc_arr (t : AT P A E N z) {ρ : Operand → Value} {o : Oper} {w : World} (ho : o.op = .alloc A) :
    (execOp ρ o).run P w = .ok (.value (.pointer (some ⟨w.heap.size, 0, none⟩))) (w.alloc (.cells (List.replicate N z).toArray A)) ∧ Arr A (w.alloc (.cells (List.replicate N z).toArray A)) w.heap.size (List.replicate N z) ∧ Gr w (w.alloc (.cells (List.replicate N z).toArray A)) := by
  obtain ⟨i, hi, hz, hs⟩ := t.parts
  refine ⟨?_, heap_alloc_new w _, (Below.refl _ _).alloc (Nat.le_refl _) _⟩
  unfold execOp
  simp only [ho, Instr.alloc, zeroValue, typeInfo, hi, hz, newVar, newRow, newObj, Value.cells, Sem.run_bind, Sem.run_pure, Result.andThen_ok, run_program]
  rfl

/-- A{x} -/
theorem run_build4 (t : AT P A E 4 z) (w : World) (x0 x1 x2 x3 : Int) :
    (Instr.build A #[(0, .int .u64 x0), (1, .int .u64 x1), (2, .int .u64 x2), (3, .int .u64 x3)]).run P w = .ok (.agg #[.int .u64 x0, .int .u64 x1, .int .u64 x2, .int .u64 x3]) w := by
  obtain ⟨i, hi, hz, hs⟩ := t.parts
  obtain ⟨j, hj, hs'⟩ := t.elem
  simp [Instr.build, zeroValue, typeInfo, hi, hz, run_underlying t.ar, sizeOf, hj, hs', Instr.fill, Value.cells, List.replicate]
theorem run_build1 (t : AT P A E 4 z) (w : World) (x0 : Int) :
    (Instr.build A #[(0, .int .u64 x0)]).run P w = .ok (.agg #[.int .u64 x0, z, z, z]) w := by
  obtain ⟨i, hi, hz, hs⟩ := t.parts
  obtain ⟨j, hj, hs'⟩ := t.elem
  simp [Instr.build, zeroValue, typeInfo, hi, hz, run_underlying t.ar, sizeOf, hj, hs', Instr.fill, Value.cells, List.replicate]

theorem wpList_build4 (t : AT P A E 4 z) {w : World} {ops : Array Oper} {rest : List Oper} {o : Oper} {a : Act} {Q : Exit → Act → World → Prop} (hgd : o.guard = none) (y0 y1 y2 y3 : Operand) (ho : o.op = .build A #[(0, y0), (1, y1), (2, y2), (3, y3)])
    (l : List Nat) (n0 n1 n2 n3 : Nat) (hl : l = [n0, n1, n2, n3]) (h0 : a.eval y0 = .int .u64 n0) (h1 : a.eval y1 = .int .u64 n1) (h2 : a.eval y2 = .int .u64 n2) (h3 : a.eval y3 = .int .u64 n3)
    (h : wpList P ops Q rest (a.put o.dst (.agg (c64 l).toArray)) w) : wpList P ops Q (o :: rest) a w := by
  subst hl
  refine wpList_plain hgd fun K hK => ?_
  unfold Oper.wp execOp
  simp only [ho, List.map_toArray, List.map_cons, List.map_nil, h0, h1, h2, h3, Sem.run_bind, Sem.run_pure, Result.andThen_ok, run_build4 t w]
  exact hK _ _ h
theorem wpList_build1 (t : AT P A E 4 (.int .u64 0)) {w : World} {ops : Array Oper} {rest : List Oper} {o : Oper} {a : Act} {Q : Exit → Act → World → Prop} (hgd : o.guard = none) (y0 : Operand) (ho : o.op = .build A #[(0, y0)])
    (l : List Nat) (n0 : Nat) (hl : l = [n0, 0, 0, 0]) (h0 : a.eval y0 = .int .u64 n0)
    (h : wpList P ops Q rest (a.put o.dst (.agg (c64 l).toArray)) w) : wpList P ops Q (o :: rest) a w := by
  subst hl
  refine wpList_plain hgd fun K hK => ?_
  unfold Oper.wp execOp
  simp only [ho, List.map_toArray, List.map_cons, List.map_nil, h0, Sem.run_bind, Sem.run_pure, Result.andThen_ok, run_build1 t w]
  exact hK _ _ h
theorem exec_build4 (t : AT P A E 4 z) {ρ : Operand → Value} {o : Oper} {w : World} (y0 y1 y2 y3 : Operand) (ho : o.op = .build A #[(0, y0), (1, y1), (2, y2), (3, y3)])
    (l : List Nat) (n0 n1 n2 n3 : Nat) (hl : l = [n0, n1, n2, n3]) (h0 : ρ y0 = .int .u64 n0) (h1 : ρ y1 = .int .u64 n1) (h2 : ρ y2 = .int .u64 n2) (h3 : ρ y3 = .int .u64 n3) :
    (execOp ρ o).run P w = .ok (.value (.agg (c64 l).toArray)) w := by
  subst hl
  unfold execOp
  simp only [ho, List.map_toArray, List.map_cons, List.map_nil, h0, h1, h2, h3, Sem.run_bind, Sem.run_pure, Result.andThen_ok, run_build4 t w]
  rfl
theorem exec_build1 (t : AT P A E 4 (.int .u64 0)) {ρ : Operand → Value} {o : Oper} {w : World} (y0 : Operand) (ho : o.op = .build A #[(0, y0)])
    (l : List Nat) (n0 : Nat) (hl : l = [n0, 0, 0, 0]) (h0 : ρ y0 = .int .u64 n0) :
    (execOp ρ o).run P w = .ok (.value (.agg (c64 l).toArray)) w := by
  subst hl
  unfold execOp
  simp only [ho, List.map_toArray, List.map_cons, List.map_nil, h0, Sem.run_bind, Sem.run_pure, Result.andThen_ok, run_build1 t w]
  rfl
theorem exec_build0 (t : AT P A E N z) {ρ : Operand → Value} {o : Oper} {w : World} (ho : o.op = .build A #[]) :
    (execOp ρ o).run P w = .ok (.value (.agg (List.replicate N z).toArray)) w := by
  unfold execOp
  simp only [ho, List.map_toArray, List.map_nil, Sem.run_bind, Sem.run_pure, Result.andThen_ok, run_build_arr t w]

/-- x == y -/
theorem c64_ints (l : List Nat) : c64 l = (l.map (fun n : Nat => (n : Int))).map (Value.int .u64) := by simp [c64]
theorem map_cast_inj (l m : List Nat) : (l.map (fun n : Nat => (n : Int)) = m.map (fun n : Nat => (n : Int))) ↔ l = m :=
  ⟨fun h => List.map_inj_right (fun _ _ h => Int.ofNat_inj.1 h) |>.1 h, fun h => h ▸ rfl⟩
theorem run_equal_c64 (t : AT P A E N z) (hu : P.underlying E = some (.int .u64)) (w : World) (l m : List Nat) (hl : l.length = N) (hm : m.length = N) :
    (Op.equalIn 10000 A (.agg (c64 l).toArray) (.agg (c64 m).toArray)).run P w = .ok (decide (l = m)) w := by
  rw [c64_ints, c64_ints, run_equal_ints t w 9998 .u64 hu _ _ (by simpa using hl) (by simpa using hm)]
  simp only [map_cast_inj]
theorem exec_eql_c64 (t : AT P A E N z) (hu : P.underlying E = some (.int .u64)) (hm : P.eqGuardType P.depth A = false) {ρ : Operand → Value} {o : Oper} {w : World} (x y : Operand) (T : TypeId) (ho : o.op = .binOp .eql A x y T) (l m : List Nat) (hl : l.length = N) (hml : m.length = N)
    (hx : ρ x = .agg (c64 l).toArray) (hy : ρ y = .agg (c64 m).toArray) :
    (execOp ρ o).run P w = .ok (.value (.bool (decide (l = m)))) w := by
  unfold execOp
  simp only [ho, hx, hy, Sem.run_bind, Sem.run_pure, Result.andThen_ok, run_eqGuard_agg w _ A x y _ _ hm, run_eql_struct, run_equal_c64 t hu w l m hl hml]
theorem wpList_eql_c64 (t : AT P A E N z) (hu : P.underlying E = some (.int .u64)) (hm : P.eqGuardType P.depth A = false) {w : World} {ops : Array Oper} {rest : List Oper} {o : Oper} {a : Act} {Q : Exit → Act → World → Prop} (hgd : o.guard = none) (x y : Operand) (T : TypeId) (ho : o.op = .binOp .eql A x y T)
    (l m : List Nat) (b : Bool) (hl : l.length = N) (hml : m.length = N) (hb : decide (l = m) = b) (hx : a.eval x = .agg (c64 l).toArray) (hy : a.eval y = .agg (c64 m).toArray)
    (h : wpList P ops Q rest (a.put o.dst (.bool b)) w) : wpList P ops Q (o :: rest) a w := by
  subst hb
  refine wpList_plain hgd fun K hK => ?_
  unfold Oper.wp
  simp only [exec_eql_c64 t hu hm x y T ho l m hl hml hx hy]
  exact hK _ _ h

/-- Two arrays are told. -/
theorem results_arr_arr (t : AT P A E N z) {fn : Func} {p q : Tmp} (h : fn.results = #[.cell p A, .cell q A]) (tmps : Array Value) (w : World) (g k : Nat) (cs ds : List Value) (hc : cs.length = N) (hd : ds.length = N)
    (hp : tmps.getD p undef = .pointer (some ⟨g, 0, none⟩)) (hq : tmps.getD q undef = .pointer (some ⟨k, 0, none⟩)) (hr : Arr A w g cs) (hs : Arr A w k ds) :
    (results fn tmps).run P w = .ok (.tuple #[.agg cs.toArray, .agg ds.toArray]) w := by
  obtain ⟨i, hi, hz, hsz⟩ := t.parts
  have h1 := run_loadVar_row (P := P) w g A A cs.toArray (0, 0) _ hr t.ar rfl (by simp [hi, hsz, hc])
  have h2 := run_loadVar_row (P := P) w k A A ds.toArray (0, 0) _ hs t.ar rfl (by simp [hi, hsz, hd])
  rw [Array.getD_eq_getD_getElem?] at hp hq
  simp [results, h, hp, hq, asAddr, h1, h2]
theorem results_arr_arr_tmp (t : AT P A E N z) {fn : Func} {p q u : Tmp} (h : fn.results = #[.cell p A, .cell q A, .tmp u]) (tmps : Array Value) (w : World) (g k : Nat) (cs ds : List Value) (hc : cs.length = N) (hd : ds.length = N)
    (hp : tmps.getD p undef = .pointer (some ⟨g, 0, none⟩)) (hq : tmps.getD q undef = .pointer (some ⟨k, 0, none⟩)) (hr : Arr A w g cs) (hs : Arr A w k ds) :
    (results fn tmps).run P w = .ok (.tuple #[.agg cs.toArray, .agg ds.toArray, tmps.getD u undef]) w := by
  obtain ⟨i, hi, hz, hsz⟩ := t.parts
  have h1 := run_loadVar_row (P := P) w g A A cs.toArray (0, 0) _ hr t.ar rfl (by simp [hi, hsz, hc])
  have h2 := run_loadVar_row (P := P) w k A A ds.toArray (0, 0) _ hs t.ar rfl (by simp [hi, hsz, hd])
  rw [Array.getD_eq_getD_getElem?] at hp hq
  simp [results, h, hp, hq, asAddr, h1, h2]
theorem results_tmp_arr (t : AT P A E N z) {fn : Func} {p u : Tmp} (h : fn.results = #[.tmp u, .cell p A]) (tmps : Array Value) (w : World) (g : Nat) (cs : List Value) (hc : cs.length = N)
    (hp : tmps.getD p undef = .pointer (some ⟨g, 0, none⟩)) (hr : Arr A w g cs) :
    (results fn tmps).run P w = .ok (.tuple #[tmps.getD u undef, .agg cs.toArray]) w := by
  obtain ⟨i, hi, hz, hsz⟩ := t.parts
  have h1 := run_loadVar_row (P := P) w g A A cs.toArray (0, 0) _ hr t.ar rfl (by simp [hi, hsz, hc])
  rw [Array.getD_eq_getD_getElem?] at hp
  simp [results, h, hp, asAddr, h1]
end

/-! ### Worlds in which some blocks turn, from one content to another. -/

/-- The world grows; what was there stays, but blocks may turn as V says. -/
structure Vw (T : TypeId) (V : Nat → List Value → List Value → Prop) (w w' : World) : Prop where
  os : w'.os = w.os
  tape : w'.tape = w.tape
  output : w'.output = w.output
  size : w.heap.size ≤ w'.heap.size
  block : ∀ k, k < w.heap.size → w'.heap[k]? = w.heap[k]? ∨ ∃ cs ds, V k cs ds ∧ Arr T w k cs ∧ Arr T w' k ds

section
variable {T : TypeId} {V : Nat → List Value → List Value → Prop}
theorem Vw.of_gr {w w' : World} (h : Gr w w') : Vw T V w w' := ⟨h.os, h.tape, h.output, h.size, fun k hk => .inl (h.block k hk)⟩
theorem Vw.refl (w : World) : Vw T V w w := .of_gr (Gr.refl w)
theorem Arr.inj {T : TypeId} {w : World} {g : Nat} {cs ds : List Value} (h : Arr T w g cs) (k : Arr T w g ds) : cs = ds := by
  have := h.symm.trans k
  simpa using this
theorem Vw.trans (ht : ∀ k a b c, V k a b → V k b c → V k a c) {a b c : World} (h : Vw T V a b) (k : Vw T V b c) : Vw T V a c := by
  refine ⟨k.os.trans h.os, k.tape.trans h.tape, k.output.trans h.output, Nat.le_trans h.size k.size, fun i hi => ?_⟩
  rcases h.block i hi with e | ⟨cs, ds, hv, h1, h2⟩ <;> rcases k.block i (Nat.lt_of_lt_of_le hi h.size) with e' | ⟨cs', ds', hv', h1', h2'⟩
  · exact .inl (e'.trans e)
  · exact .inr ⟨cs', ds', hv', e.symm.trans h1', h2'⟩
  · exact .inr ⟨cs, ds, hv, h1, e'.trans h2⟩
  · obtain rfl := h2.inj h1'
    exact .inr ⟨cs, ds', ht _ _ _ _ hv hv', h1, h2'⟩
theorem Vw.keep {w w' : World} (h : Vw T V w w') {S : TypeId} {k : Nat} {cs : List Value} (hr : Arr S w k cs) (hn : ∀ cs ds, ¬ V k cs ds) : Arr S w' k cs := by
  rcases h.block k hr.lt with e | ⟨_, _, hv, _⟩
  · unfold Arr; rw [e]; exact hr
  · exact absurd hv (hn _ _)
theorem Vw.turn {w w' : World} (h : Vw T V w w') {k : Nat} {cs : List Value} (hr : Arr T w k cs) : Arr T w' k cs ∨ ∃ ds, V k cs ds ∧ Arr T w' k ds := by
  rcases h.block k hr.lt with e | ⟨cs', ds, hv, h1, h2⟩
  · refine .inl ?_; unfold Arr; rw [e]; exact hr
  · obtain rfl := hr.inj h1
    exact .inr ⟨ds, hv, h2⟩
theorem Vw.below {B : Nat} {w w' : World} (h : Vw T V w w') (hV : ∀ k cs ds, V k cs ds → B ≤ k) (hB : B ≤ w.heap.size) : Below B w w' :=
  ⟨h.os, h.tape, h.output, h.size, fun k hk => by
    rcases h.block k (by omega) with e | ⟨_, _, hv, _⟩
    · exact e
    · have := hV _ _ _ hv; omega⟩
theorem Vw.row {w : World} {g : Nat} {cs ds : List Value} (hr : Arr T w g cs) (hd : Arr T (w.setRow g ds.toArray) g ds) (hv : V g cs ds) : Vw T V w (w.setRow g ds.toArray) := by
  have b := But.row g w ds.toArray
  refine ⟨b.os, b.tape, b.output, Nat.le_of_eq b.size.symm, fun k hk => ?_⟩
  by_cases h : k = g
  · subst h; exact .inr ⟨cs, ds, hv, hr, hd⟩
  · exact .inl (b.block k h)
theorem Vw.row_same {w : World} {g : Nat} {ds : List Value} (hr : Arr T w g ds) (hd : Arr T (w.setRow g ds.toArray) g ds) : Vw T V w (w.setRow g ds.toArray) := by
  have b := But.row g w ds.toArray
  refine ⟨b.os, b.tape, b.output, Nat.le_of_eq b.size.symm, fun k hk => ?_⟩
  by_cases h : k = g
  · subst h; exact .inl (hd.trans hr.symm)
  · exact .inl (b.block k h)
end

namespace Mild2
section
variable {P : Program} {ops : Array Oper} {G : World → World → Prop} {C : World → Prop} {K0 : FuncId → Array Value → Value → World → Prop}
/-- An operation that yields nothing, and of which something is noted. -/
theorem step_note {Q : Act → World → Prop} {o : Oper} {rest : List Oper} {a : Act} {fs : Option Tmp → World → Prop} (hw : Region.wanted o (yielded ops a.tmps) = true) (hd : o.dst = none) (Y : World → Prop) (hY : Stab G Y)
    (hrun : ∀ w, C w → has fs (o.looksAt ops) w → ∃ w2, (execOp a.eval o).run P w = .ok .skip w2 ∧ G w w2 ∧ Y w2) (h : wpMild P ops G C K0 Q rest a (addF fs none Y)) : wpMild P ops G C K0 Q (o :: rest) a fs := by
  unfold wpMild
  simp only [hw, if_true]
  refine ⟨fun _ => Y, fun _ => hY, fun w hcw hh => ?_, fun v _ => ?_⟩
  · obtain ⟨w2, hr, h1, h2⟩ := hrun w hcw hh
    rw [hr]; exact ⟨h1, h2⟩
  · rw [hd]; exact h
/-- An operation that makes something new, of which something is known. -/
theorem step_new {Q : Act → World → Prop} {o : Oper} {rest : List Oper} {a : Act} {fs : Option Tmp → World → Prop} (hw : Region.wanted o (yielded ops a.tmps) = true) (hd : o.dst.isSome = true) (Y : Value → World → Prop) (hY : ∀ v, Stab G (Y v))
    (hrun : ∀ w, C w → has fs (o.looksAt ops) w → ∃ v w2, (execOp a.eval o).run P w = .ok (.value v) w2 ∧ G w w2 ∧ Y v w2) (h : ∀ v, (∃ w, C w ∧ Y v w) → wpMild P ops G C K0 Q rest (a.put o.dst v) (addF fs o.dst (Y v))) : wpMild P ops G C K0 Q (o :: rest) a fs := by
  unfold wpMild
  simp only [hw, if_true]
  refine ⟨Y, hY, fun w hcw hh => ?_, fun v hv => h v (hv (fun e => by rw [e] at hd; simp at hd))⟩
  obtain ⟨v, w2, hr, h1, h2⟩ := hrun w hcw hh
  rw [hr]; exact ⟨h1, h2⟩
end
end Mild2

end Go.Proofs.Ytpfoeeiacfadfaa
