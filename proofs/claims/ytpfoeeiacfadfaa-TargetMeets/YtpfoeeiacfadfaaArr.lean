/-
  Plain facts on arrays of one-cell elements: as values, and in blocks of memory of their own.
  Conditions: each element takes one cell.
-/
import Derived.Test.YtpfoeeiacfadfaaBytes
import Derived.Laws.CopyRow
import Derived.Laws.Rows
import Derived.Laws.ResultCell
import Derived.ChangeKeysEq
import Derived.Laws.StructEq
namespace Go.Proofs.Ytpfoeeiacfadfaa
open Go.RowKit

/-- THE BLOCK g HOLDS THE CELLS cs, AS A VARIABLE OF TYPE T. -/
def Arr (T : TypeId) (w : World) (g : Nat) (cs : List Value) : Prop := w.heap[g]? = some (.cells cs.toArray T (0, 0))

/-- NOTHING BUT THE BLOCK g HAS TURNED. -/
structure But (g : Nat) (w w' : World) : Prop where
  os : w'.os = w.os
  tape : w'.tape = w.tape
  output : w'.output = w.output
  size : w'.heap.size = w.heap.size
  block : ∀ k, k ≠ g → w'.heap[k]? = w.heap[k]?

theorem But.below {g B : Nat} {w w' : World} (h : But g w w') (hB : B ≤ g) : Below B w w' := ⟨h.os, h.tape, h.output, by have := h.size; omega, fun k hk => h.block k (by omega)⟩
theorem But.row (g : Nat) (w : World) (cs : Array Value) : But g w (w.setRow g cs) := ⟨rfl, rfl, rfl, by simp, fun k hk => setRow_other w g k cs hk⟩
theorem But.refl (g : Nat) (w : World) : But g w w := ⟨rfl, rfl, rfl, rfl, fun _ _ => rfl⟩
theorem But.trans {g : Nat} {a b c : World} (h : But g a b) (k : But g b c) : But g a c := ⟨k.os.trans h.os, k.tape.trans h.tape, k.output.trans h.output, k.size.trans h.size, fun i hi => (k.block i hi).trans (h.block i hi)⟩

theorem Arr.lt {T : TypeId} {w : World} {g : Nat} {cs : List Value} (h : Arr T w g cs) : g < w.heap.size := (Array.getElem?_eq_some_iff.1 h).1
theorem Arr.below {T : TypeId} {w w' : World} {g B : Nat} {cs : List Value} (h : Arr T w g cs) (hb : Below B w w') (hg : g < B) : Arr T w' g cs := by
  unfold Arr; rw [hb.block g hg]; exact h
theorem Arr.gr {T : TypeId} {w w' : World} {g : Nat} {cs : List Value} (h : Arr T w g cs) (hb : Gr w w') : Arr T w' g cs := Arr.below h hb h.lt
theorem Arr.but {T : TypeId} {w w' : World} {g k : Nat} {cs : List Value} (h : Arr T w k cs) (hb : But g w w') (hk : k ≠ g) : Arr T w' k cs := by
  unfold Arr; rw [hb.block k hk]; exact h
theorem Arr.drewN {T : TypeId} {w : World} {g : Nat} {cs : List Value} (h : Arr T w g cs) (k : Nat) : Arr T (w.drewN k) g cs := by
  have := World.heap_drewN (w := w) k
  unfold Arr; rw [this]; exact h
theorem Arr.cell {T : TypeId} {w : World} {g i : Nat} {cs : List Value} (h : Arr T w g cs) (hi : i < cs.length) : w.cell? ⟨g, i, none⟩ = some cs[i] := by
  rw [cell_of_row w g i _ T (0, 0) h]; simp [hi]
theorem Arr.rd {T : TypeId} {w : World} {g : Nat} {l : List UInt8} (h : Arr T w g (cellsOf l)) (n : Nat) (hn : n = l.length) : Rd (g + 1) w (.slice (some ⟨g, 0, none⟩) n n) l := by
  subst hn
  refine ⟨_, _, rfl, Nat.le_refl _, (fun h => by cases h), fun a ha j u hu => ?_⟩
  obtain rfl := Option.some.inj ha
  obtain ⟨hj, rfl⟩ := cellsOf_get hu
  rw [Addr.add_lit, h.cell (by simp [cellsOf]; omega)]
  simp [cellsOf]

/-- The program's types: A is [N]E, each element of one cell, whose zero is z. -/
structure AT (P : Program) (A E : TypeId) (N : Nat) (z : Value) : Prop where
  ar : P.underlying A = some (.array N E)
  info : (P.info? A).map (fun i => (i.zero, i.size)) = some (some (.agg (List.replicate N z).toArray), N)
  el : (P.info? E).map (·.size) = some 1
  plain : P.plainKey E = true

section
variable {P : Program} {A E : TypeId} {N : Nat} {z : Value}

theorem AT.parts (t : AT P A E N z) : ∃ i, P.info? A = some i ∧ i.zero = some (.agg (List.replicate N z).toArray) ∧ i.size = N := by
  obtain ⟨i, hi, h⟩ := Option.map_eq_some_iff.1 t.info
  simp only [Prod.mk.injEq] at h
  exact ⟨i, hi, h.1, h.2⟩
theorem AT.elem (t : AT P A E N z) : ∃ i, P.info? E = some i ∧ i.size = 1 := by
  obtain ⟨i, hi, h⟩ := Option.map_eq_some_iff.1 t.el
  exact ⟨i, hi, h⟩

/-- new(A) with a value. -/
theorem wpList_box_arr {w : World} {ops : Array Oper} {rest : List Oper} {o : Oper} {a : Act} {Q : Exit → Act → World → Prop} (hgd : o.guard = none) (T : TypeId) (x : Operand) (ho : o.op = .box T x)
    (cs : List Value) (hx : a.eval x = .agg cs.toArray)
    (h : ∀ g w', w.heap.size ≤ g → Arr T w' g cs → Below w.heap.size w w' → wpList P ops Q rest (a.put o.dst (.pointer (some ⟨g, 0, none⟩))) w') : wpList P ops Q (o :: rest) a w := by
  refine wpList_plain hgd fun K hK => ?_
  unfold Oper.wp execOp
  simp only [ho, hx, Instr.box, newVar, newRow, newObj, Value.cells, Sem.run_bind, Sem.run_pure]
  exact hK _ _ (h w.heap.size (w.alloc (.cells cs.toArray T)) (Nat.le_refl _) (heap_alloc_new w _) ((Below.refl _ _).alloc (Nat.le_refl _) _))

/-- var x A -/
theorem wpList_alloc_arr (t : AT P A E N z) {w : World} {ops : Array Oper} {rest : List Oper} {o : Oper} {a : Act} {Q : Exit → Act → World → Prop} (hgd : o.guard = none) (ho : o.op = .alloc A) (d : Tmp) (_hd : o.dst = some d)
    (h : ∀ g w', w.heap.size ≤ g → Arr A w' g (List.replicate N z) → Below w.heap.size w w' → wpList P ops Q rest (a.put o.dst (.pointer (some ⟨g, 0, none⟩))) w') : wpList P ops Q (o :: rest) a w := by
  obtain ⟨i, hi, hz, hs⟩ := t.parts
  refine wpList_plain hgd fun K hK => ?_
  unfold Oper.wp execOp
  simp only [ho, Instr.alloc, zeroValue, typeInfo, hi, hz, newVar, newRow, newObj, Value.cells, Sem.run_bind, Sem.run_pure, Result.andThen_ok, run_program]
  exact hK _ _ (h w.heap.size (w.alloc (.cells (List.replicate N z).toArray A)) (Nat.le_refl _) (heap_alloc_new w _) ((Below.refl _ _).alloc (Nat.le_refl _) _))

/-- A{} -/
theorem run_build_arr (t : AT P A E N z) (w : World) : (Instr.build A #[]).run P w = .ok (.agg (List.replicate N z).toArray) w := by
  obtain ⟨i, hi, hz, hs⟩ := t.parts
  obtain ⟨j, hj, hs'⟩ := t.elem
  simp [Instr.build, zeroValue, typeInfo, hi, hz, run_underlying t.ar, sizeOf, hj, Instr.fill, Value.cells]

theorem wpList_build_arr (t : AT P A E N z) {w : World} {ops : Array Oper} {rest : List Oper} {o : Oper} {a : Act} {Q : Exit → Act → World → Prop} (hgd : o.guard = none) (ho : o.op = .build A #[])
    (h : wpList P ops Q rest (a.put o.dst (.agg (List.replicate N z).toArray)) w) : wpList P ops Q (o :: rest) a w := by
  refine wpList_plain hgd fun K hK => ?_
  unfold Oper.wp execOp
  simp only [ho, List.map_toArray, List.map_nil, Sem.run_bind, Sem.run_pure, Result.andThen_ok, run_build_arr t w]
  exact hK _ _ h

/-- *p, whole -/
theorem run_load_arr (t : AT P A E N z) (w : World) (g : Nat) (cs : List Value) (hc : cs.length = N) (h : Arr A w g cs) : (Instr.loadAt A (.pointer (some ⟨g, 0, none⟩))).run P w = .ok (.agg cs.toArray) w := by
  obtain ⟨i, hi, hz, hs⟩ := t.parts
  simp only [Instr.loadAt, Instr.sureAddr, Sem.run_bind, Sem.run_pure, Result.andThen_ok, run_loadVar_row w g A A _ (0, 0) _ h t.ar rfl (by simp [hi, hs, hc])]

theorem wpList_load_arr (t : AT P A E N z) {w : World} {ops : Array Oper} {rest : List Oper} {o : Oper} {a : Act} {Q : Exit → Act → World → Prop} (hgd : o.guard = none) (x : Operand) (ho : o.op = .load A x)
    (g : Nat) (cs : List Value) (hc : cs.length = N) (hx : a.eval x = .pointer (some ⟨g, 0, none⟩)) (hr : Arr A w g cs)
    (h : wpList P ops Q rest (a.put o.dst (.agg cs.toArray)) w) : wpList P ops Q (o :: rest) a w := by
  refine wpList_plain hgd fun K hK => ?_
  unfold Oper.wp execOp
  simp only [ho, hx, Sem.run_bind, Sem.run_pure, Result.andThen_ok, run_load_arr t w g cs hc hr]
  exact hK _ _ h

/-- *p = y, whole -/
theorem wpList_store_arr (t : AT P A E N z) {w : World} {ops : Array Oper} {rest : List Oper} {o : Oper} {a : Act} {Q : Exit → Act → World → Prop} (hgd : o.guard = none) (x y : Operand) (ho : o.op = .store A x y) (hd : o.dst = none)
    (g : Nat) (cs ds : List Value) (hc : cs.length = N) (hds : ds.length = N) (h1 : ∀ v ∈ ds, v.oneCell' = true) (hx : a.eval x = .pointer (some ⟨g, 0, none⟩)) (hy : a.eval y = .agg ds.toArray) (hr : Arr A w g cs)
    (h : ∀ w', Arr A w' g ds → But g w w' → wpList P ops Q rest a w') : wpList P ops Q (o :: rest) a w := by
  obtain ⟨i, hi, hz, hs⟩ := t.parts
  refine wpList_plain hgd fun K hK => ?_
  have hst := run_storeCells_at P g 0 A ds 0 cs.toArray w hr (by simp [hc, hds]) h1
  have e : (cs.toArray.toList.take (0 + 0) ++ ds ++ cs.toArray.toList.drop (0 + 0 + ds.length)) = ds := by simp [hc, hds]
  rw [e] at hst
  unfold Oper.wp execOp
  simp only [ho, hx, hy, Instr.storeAt, Instr.sureAddr, storeVar, sizeOf, typeInfo, hi, hs, Value.cells, Sem.run_bind, Sem.run_pure, Result.andThen_ok, run_program, List.size_toArray, hds, ne_eq, not_true_eq_false, if_false, hst]
  have hq := hK a (w.setRow g ds.toArray) (h _ (setRow_heap w g _ _ A _ hr) (But.row g w _))
  simpa [Oper.upon, Act.put, hd] using hq

/-- p[i] = y -/
theorem wpList_store_cell {w : World} {ops : Array Oper} {rest : List Oper} {o : Oper} {a : Act} {Q : Exit → Act → World → Prop} (hgd : o.guard = none) (F : TypeId) (x y : Operand) (ho : o.op = .store F x y) (hd : o.dst = none) (hF : (P.info? F).map (·.size) = some 1)
    (g i : Nat) (cs : List Value) (u : Value) (hi : i < cs.length) (h1 : u.oneCell' = true) (hx : a.eval x = .pointer (some ⟨g, i, none⟩)) (hy : a.eval y = u) (T : TypeId) (hr : Arr T w g cs)
    (h : ∀ w', Arr T w' g (cs.set i u) → But g w w' → wpList P ops Q rest a w') : wpList P ops Q (o :: rest) a w := by
  obtain ⟨j, hj, hs⟩ := Option.map_eq_some_iff.1 hF
  refine wpList_plain hgd fun K hK => ?_
  have hst := run_storeCells_at P g i T [u] 0 cs.toArray w hr (by simp; omega) (by simpa using h1)
  have e : (cs.toArray.toList.take (i + 0) ++ [u] ++ cs.toArray.toList.drop (i + 0 + [u].length)) = cs.set i u := by
    rw [List.set_eq_take_append_cons_drop]; simp [hi]
  rw [e] at hst
  have hu : u.cells = #[u] := by cases u <;> first | rfl | (simp [Value.oneCell'] at h1)
  unfold Oper.wp execOp
  simp only [ho, hx, hy, Instr.storeAt, Instr.sureAddr, storeVar, sizeOf, typeInfo, hj, hs, hu, Sem.run_bind, Sem.run_pure, Result.andThen_ok, run_program, List.size_toArray, List.length_cons, List.length_nil, Nat.zero_add, ne_eq, not_true_eq_false, if_false, hst]
  have hq := hK a (w.setRow g (cs.set i u).toArray) (h _ (setRow_heap w g _ _ T _ hr) (But.row g w _))
  simpa [Oper.upon, Act.put, hd] using hq

/-- x[i] of an array that is a value -/
theorem run_index_arr (t : AT P A E N z) (w : World) (cs : List Value) (i : Nat) (k : IntKind) (hc : cs.length = N) (hi : i < N) : (Instr.index A (.agg cs.toArray) (.int k i)).run P w = .ok (cs[i]'(by omega)) w := by
  obtain ⟨j, hj, hs⟩ := t.elem
  have hp := run_part_plain (P := P) w t.plain (xs := cs.toArray) (off := i) (v := cs[i]'(by omega)) (by simp [show i < cs.length by omega])
  simp [Instr.index, asIntOf, run_underlying t.ar, hi, sizeOf, typeInfo, hj, hs, hp]

theorem wpList_index_arr (t : AT P A E N z) {w : World} {ops : Array Oper} {rest : List Oper} {o : Oper} {a : Act} {Q : Exit → Act → World → Prop} (hgd : o.guard = none) (x y : Operand) (ho : o.op = .index A x y)
    (cs : List Value) (i : Nat) (k : IntKind) (hc : cs.length = N) (hi : i < N) (hx : a.eval x = .agg cs.toArray) (hy : a.eval y = .int k i)
    (h : wpList P ops Q rest (a.put o.dst (cs[i]'(by omega))) w) : wpList P ops Q (o :: rest) a w := by
  refine wpList_plain hgd fun K hK => ?_
  unfold Oper.wp execOp
  simp only [ho, hx, hy, Sem.run_bind, Sem.run_pure, Result.andThen_ok, run_index_arr t w cs i k hc hi]
  exact hK _ _ h

/-- &p[i] -/
theorem run_indexAt_arr (t : AT P A E N z) (w : World) (g i : Nat) (k : IntKind) (hi : i < N) : (Instr.indexAt A (.pointer (some ⟨g, 0, none⟩)) (.int k i)).run P w = .ok (.pointer (some ⟨g, i, none⟩)) w := by
  obtain ⟨j, hj, hs⟩ := t.elem
  simp [Instr.indexAt, asIntOf, run_underlying t.ar, Instr.sureAddr, hi, sizeOf, typeInfo, hj, hs, Addr.add_lit]

theorem wpList_indexAt_arr (t : AT P A E N z) {w : World} {ops : Array Oper} {rest : List Oper} {o : Oper} {a : Act} {Q : Exit → Act → World → Prop} (hgd : o.guard = none) (x y : Operand) (ho : o.op = .indexAddr A x y)
    (g i : Nat) (k : IntKind) (u : Int) (hu : u = (i : Int)) (hi : i < N) (hx : a.eval x = .pointer (some ⟨g, 0, none⟩)) (hy : a.eval y = .int k u)
    (h : wpList P ops Q rest (a.put o.dst (.pointer (some ⟨g, i, none⟩))) w) : wpList P ops Q (o :: rest) a w := by
  subst hu
  refine wpList_plain hgd fun K hK => ?_
  unfold Oper.wp execOp
  simp only [ho, hx, hy, Sem.run_bind, Sem.run_pure, Result.andThen_ok, run_indexAt_arr t w g i k hi]
  exact hK _ _ h

/-- p[:] -/
theorem run_slice_arr (t : AT P A E N z) (w : World) (g : Nat) : (Instr.sliceAt A (.pointer (some ⟨g, 0, none⟩)) none none none).run P w = .ok (.slice (some ⟨g, 0, none⟩) N N) w := by
  obtain ⟨j, hj, hs⟩ := t.elem
  simp [Instr.sliceAt, run_underlying t.ar, Instr.sureAddr, Instr.sliceBounds, sizeOf, typeInfo, hj, Addr.add_lit]

/-- x == y -/
theorem run_eqItems_int (w : World) (d : Nat) (k : IntKind) (hu : P.underlying E = some (.int k)) (hp : P.plainKey E = true) (hs : P.cellsOf E = 1) (xs ys : List Int) : ∀ (is : List Nat), (∀ i ∈ is, i < xs.length ∧ i < ys.length) →
    (Op.eqItems (d + 1) E 1 (xs.map (Value.int k)).toArray (ys.map (Value.int k)).toArray is).run P w = .ok (is.all fun i => xs[i]? == ys[i]?) w
  | [], _ => by simp [Op.eqItems]
  | i :: is, h => by
    have hx := h i (by simp)
    have p1 := run_part_plain (P := P) w hp (xs := (xs.map (Value.int k)).toArray) (off := i * 1) (v := .int k xs[i]) (by simp [hx.1])
    have p2 := run_part_plain (P := P) w hp (xs := (ys.map (Value.int k)).toArray) (off := i * 1) (v := .int k ys[i]) (by simp [hx.2])
    have ih := run_eqItems_int w d k hu hp hs xs ys is (fun j hj => h j (by simp [hj]))
    simp only [Op.eqItems, Sem.run_bind, p1, p2, Result.andThen_ok, run_equalIn_int w d E k k _ _ hu]
    cases hb : xs[i] == ys[i]
    · simp [hx.1, hx.2, hb]
    · simp [hx.1, hx.2, hb, ih]

theorem all_range_eq (xs ys : List Int) (n : Nat) (hx : xs.length = n) (hy : ys.length = n) : ((List.range n).all fun i => xs[i]? == ys[i]?) = decide (xs = ys) := by
  rw [Bool.eq_iff_iff]
  simp only [List.all_eq_true, List.mem_range, beq_iff_eq, decide_eq_true_eq]
  constructor
  · intro h
    apply List.ext_getElem? 
    intro i
    by_cases hi : i < n
    · exact h i hi
    · rw [List.getElem?_eq_none (by omega), List.getElem?_eq_none (by omega)]
  · rintro rfl i _; rfl

theorem run_equal_ints (t : AT P A E N z) (w : World) (d : Nat) (k : IntKind) (hu : P.underlying E = some (.int k)) (xs ys : List Int) (hx : xs.length = N) (hy : ys.length = N) :
    (Op.equalIn (d + 2) A (.agg (xs.map (Value.int k)).toArray) (.agg (ys.map (Value.int k)).toArray)).run P w = .ok (decide (xs = ys)) w := by
  obtain ⟨j, hj, hs⟩ := t.elem
  have hc : P.cellsOf E = 1 := by simp [Program.cellsOf, hj, hs]
  rw [run_equalIn_array w (d + 1) _ _ t.ar hj, hc, run_eqItems_int w d k hu t.plain hc xs ys _ (fun i hi => by simp at hi; omega), all_range_eq xs ys N hx hy]

theorem exec_load_arr (t : AT P A E N z) {ρ : Operand → Value} {o : Oper} {w : World} (x : Operand) (ho : o.op = .load A x) (g : Nat) (cs : List Value) (hc : cs.length = N) (hx : ρ x = .pointer (some ⟨g, 0, none⟩)) (hr : Arr A w g cs) :
    (execOp ρ o).run P w = .ok (.value (.agg cs.toArray)) w := by
  unfold execOp
  simp only [ho, hx, Sem.run_bind, Sem.run_pure, Result.andThen_ok, run_load_arr t w g cs hc hr]

/-- An array is told. -/
theorem results_arr (t : AT P A E N z) {fn : Func} {p : Tmp} (h : fn.results = #[.cell p A]) (tmps : Array Value) (w : World) (g : Nat) (cs : List Value) (hc : cs.length = N) (hp : tmps.getD p undef = .pointer (some ⟨g, 0, none⟩)) (hr : Arr A w g cs) :
    (results fn tmps).run P w = .ok (.agg cs.toArray) w := by
  obtain ⟨i, hi, hz, hs⟩ := t.parts
  exact results_cell_row h tmps w g A cs.toArray (0, 0) _ hp hr t.ar rfl (by simp [hi, hs, hc])

/-- An array and a plain value are told. -/
theorem results_arr_tmp (t : AT P A E N z) {fn : Func} {p u : Tmp} (h : fn.results = #[.cell p A, .tmp u]) (tmps : Array Value) (w : World) (g : Nat) (cs : List Value) (hc : cs.length = N) (hp : tmps.getD p undef = .pointer (some ⟨g, 0, none⟩)) (hr : Arr A w g cs) :
    (results fn tmps).run P w = .ok (.tuple #[.agg cs.toArray, tmps.getD u undef]) w := by
  obtain ⟨i, hi, hz, hs⟩ := t.parts
  have := run_loadVar_row (P := P) w g A A cs.toArray (0, 0) _ hr t.ar rfl (by simp [hi, hs, hc])
  rw [results_cell_tmp h, hp]
  simp only [asAddr, Sem.run_pure, Result.andThen_ok, this]

end
end Go.Proofs.Ytpfoeeiacfadfaa
