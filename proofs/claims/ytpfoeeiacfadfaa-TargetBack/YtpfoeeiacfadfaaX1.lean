/-
  Plain facts on single operations, each told as the value that it yields, or as what it turns.
-/
import Derived.Test.YtpfoeeiacfadfaaMo
import Derived.Great.BuildSlice
namespace Go.Proofs.Ytpfoeeiacfadfaa
open Go.RowKit

/-- A slice type T of elements E of z cells, b bytes. -/
structure ST (P : Program) (T E : TypeId) (z b : Nat) (zv : Value) : Prop where
  sl : P.underlying T = some (.slice E)
  info : (P.info? E).map (fun i => (i.zero, i.size, i.bytes)) = some (some zv, z, b)
  zs : zv.cells.size = z
  pos : 0 < z
  small : b ≤ 1024
section
variable {P : Program} {ρ : Operand → Value} {o : Oper} {w w0 : World} {L : List Res} {T E : TypeId} {z b : Nat} {zv : Value}
theorem ST.parts (t : ST P T E z b zv) : ∃ i, P.info? E = some i ∧ i.zero = some zv ∧ i.size = z ∧ i.bytes = b := by
  obtain ⟨i, hi, h⟩ := Option.map_eq_some_iff.1 t.info
  simp only [Prod.mk.injEq] at h
  exact ⟨i, hi, h.1, h.2.1, h.2.2⟩

theorem x_len (hT : P.underlying T = some (.slice E)) (x : Operand) (ho : o.op = .call { callee := .builtin .len, args := #[x], argTypes := #[T] }) {B : Nat} {v : Value} {n : Nat} {cs : List Value} (h : Rc B w v n cs) (hx : ρ x = v) :
    (execOp ρ o).run P w = .ok (.value (.int .i64 (n : Int))) w := by
  obtain ⟨ao, cap, rfl, _⟩ := h
  unfold execOp
  simp only [ho, resolve, invoke, builtin, Sem.run_bind, Sem.run_pure, Result.andThen_ok, List.map_toArray, List.map_cons, List.map_nil, hx]
  simp [Builtin.len_, run_underlying hT, goInt]
/-- &v[i] -/
theorem x_ep (t : ST P T E z b zv) (x y : Operand) (ho : o.op = .indexAddr T x y) {B : Nat} {v : Value} {n : Nat} {cs : List Value} (h : Rc B w v n cs) (i : Nat) (k : IntKind) (q : Nat) (hq : i * z = q) (hi : i < n) (hx : ρ x = v) (u : Int) (hu : u = (i : Int)) (hy : ρ y = .int k u) :
    (execOp ρ o).run P w = .ok (.value (eP v q)) w := by
  subst hu hq
  obtain ⟨ao, cap, rfl, h1, h2, _⟩ := h
  cases ao with
  | none => have := h2 rfl; omega
  | some a =>
    obtain ⟨j, hj, _, hs, _⟩ := t.parts
    have h : (Instr.indexAt T (.slice (some a) n cap) (.int k i)).run P w = .ok (.pointer (some (a.add (i * z)))) w := by
      simp [Instr.indexAt, asIntOf, run_underlying t.sl, hi, sizeOf, typeInfo, hj, hs]
    unfold execOp
    simp only [ho, hx, hy, Sem.run_bind, Sem.run_pure, Result.andThen_ok, h]
    rfl
/-- *p, one cell of a slice -/
theorem x_ldp {F : TypeId} {k : IntKind} (hF : P.underlying F = some (.int k)) (x : Operand) (ho : o.op = .load F x) {B : Nat} {v : Value} {n : Nat} {cs : List Value} (h : Rc B w v n cs) (j : Nat) (hn : 0 < n) (u : Value) (hu : cs[j]? = some u) (hx : ρ x = eP v j) :
    (execOp ρ o).run P w = .ok (.value u) w := by
  obtain ⟨a0, cap, rfl, he, hc⟩ := h.eP hn hu
  unfold execOp
  have h : (Instr.loadAt F (eP (.slice (some a0) n cap) j)).run P w = .ok u w := by rw [he]; simp [Instr.loadAt, Instr.sureAddr, loadVar, isAgg, run_underlying hF, hc]
  simp only [ho, hx, Sem.run_bind, Sem.run_pure, Result.andThen_ok, h]
/-- *p, some cells of a slice as an array -/
theorem x_lda {A F : TypeId} {N : Nat} {zz : Value} (t : AT P A F N zz) (x : Operand) (ho : o.op = .load A x) {B : Nat} {v : Value} {n : Nat} {cs : List Value} (h : Rc B w v n cs) (j : Nat) (hn : 0 < n) (us : List Value) (hl : us.length = N) (hN : 0 < N) (hu : ∀ i u, us[i]? = some u → cs[j + i]? = some u) (hx : ρ x = eP v j) :
    (execOp ρ o).run P w = .ok (.value (.agg us.toArray)) w := by
  obtain ⟨i, hi, hz, hs⟩ := t.parts
  obtain ⟨u0, hu0⟩ : ∃ u0, us[0]? = some u0 := ⟨us[0]'(by omega), List.getElem?_eq_getElem (by omega)⟩
  obtain ⟨a0, cap, rfl, he, hc⟩ := h.eP hn (hu 0 u0 hu0)
  rw [Nat.add_zero] at he
  have h1 := run_loadCells_list (P := P) w (a0.add j) us (fun k u hk => by
    obtain ⟨a1, cap1, e1, _, hc1⟩ := h.eP hn (hu k u hk)
    simp only [Value.slice.injEq, Option.some.injEq] at e1
    obtain ⟨rfl, _, rfl⟩ := e1
    rw [← hc1]
    congr 1
    obtain ⟨b, off, sp⟩ := a0
    unfold Addr.add
    by_cases e0 : j = 0
    · subst e0; simp
    · by_cases ej : k = 0
      · subst ej; simp
      · simp [e0, ej, Nat.add_assoc])
  rw [hl] at h1
  have h2 : (Instr.loadAt A (eP (.slice (some a0) n cap) j)).run P w = .ok (.agg us.toArray) w := by
    rw [he]
    simp [Instr.loadAt, Instr.sureAddr, loadVar, isAgg, run_underlying t.ar, sizeOf, typeInfo, hi, hs, h1]
  unfold execOp
  simp only [ho, hx, Sem.run_bind, Sem.run_pure, Result.andThen_ok, h2]
def evs (ρ : Operand → Value) : List (Nat × Operand) → List (Nat × Value)
  | [] => []
  | (i, x) :: r => (i, ρ x) :: evs ρ r
def nm : Nat → List Value → List (Nat × Value)
  | _, [] => []
  | k, u :: r => (k, u) :: nm (k + 1) r
/-- new(array) -/
theorem x_alc {A F : TypeId} {N : Nat} {zz : Value} (t : AT P A F N zz) (ho : o.op = .alloc A) (m : Mo w0 w L) (cs : List Value) (hz : List.replicate N zz = cs) :
    ∃ v w', (execOp ρ o).run P w = .ok (.value v) w' ∧ ∃ g, v = .pointer (some ⟨g, 0, none⟩) ∧ Mo w0 w' (.arr g A cs :: L) := by
  subst hz
  obtain ⟨i, hi, hz, hs⟩ := t.parts
  have hrun : (Instr.alloc A true (.tuple #[])).run P w = .ok (.pointer (some ⟨w.heap.size, 0, none⟩)) (w.alloc (.cells (List.replicate N zz).toArray A)) := by
    simp [Instr.alloc, zeroValue, typeInfo, hi, hz, newVar, newRow, newObj, Value.cells]
    rfl
  refine ⟨_, _, ?_, w.heap.size, rfl, m.new (w' := w.alloc (.cells (List.replicate N zz).toArray A)) (r := .arr w.heap.size A _) ((Below.refl _ _).alloc (Nat.le_refl _) _) ⟨Nat.le_refl _, heap_alloc_new w _⟩⟩
  unfold execOp
  simp only [ho, Sem.run_bind, Sem.run_pure, Result.andThen_ok, hrun]
/-- new(T) with a value of cells -/
theorem x_box (A : TypeId) (x : Operand) (ho : o.op = .box A x) (m : Mo w0 w L) (cs : List Value) (hx : ρ x = .agg cs.toArray) :
    ∃ v w', (execOp ρ o).run P w = .ok (.value v) w' ∧ ∃ g, v = .pointer (some ⟨g, 0, none⟩) ∧ Mo w0 w' (.arr g A cs :: L) := by
  have hrun : (Instr.box A (.agg cs.toArray)).run P w = .ok (.pointer (some ⟨w.heap.size, 0, none⟩)) (w.alloc (.cells cs.toArray A)) := by
    simp [Instr.box, newVar, newRow, newObj, Value.cells]
    rfl
  refine ⟨_, _, ?_, w.heap.size, rfl, m.new (w' := w.alloc (.cells cs.toArray A)) (r := .arr w.heap.size A _) ((Below.refl _ _).alloc (Nat.le_refl _) _) ⟨Nat.le_refl _, heap_alloc_new w _⟩⟩
  unfold execOp
  simp only [ho, hx, Sem.run_bind, Sem.run_pure, Result.andThen_ok, hrun]
/-- Cells of a block are written. -/
theorem x_sta {F : TypeId} (x y : Operand) (ho : o.op = .store F x y) (m : Mo w0 w L) (i : Nat) {g : Nat} {T : TypeId} {cs : List Value} (hi : L[i]? = some (.arr g T cs)) (j : Nat) (us ds : List Value) (hF : (P.info? F).map (·.size) = some us.length) (hj : j + us.length ≤ cs.length) (h1 : ∀ c ∈ us, c.oneCell' = true) (hds : cs.take j ++ us ++ cs.drop (j + us.length) = ds)
    (hx : ρ x = .pointer (some ⟨g, j, none⟩)) (u : Value) (hu : u.cells = us.toArray) (hy : ρ y = u) : ∃ w', (execOp ρ o).run P w = .ok .skip w' ∧ Mo w0 w' (L.set i (.arr g T ds)) := by
  subst hds
  obtain ⟨q, hq, hsz⟩ := Option.map_eq_some_iff.1 hF
  have hg := m.get hi
  have hst := run_storeCells_at P g j T us 0 cs.toArray w hg.2 (by simpa using hj) h1
  simp only [Nat.add_zero] at hst
  refine ⟨_, ?_, m.turn hi (w' := w.setRow g (cs.take j ++ us ++ cs.drop (j + us.length)).toArray) ⟨rfl, rfl, rfl, by simp, fun k _ hk => setRow_other w g k _ (fun e => hk (by simp [Res.blk, e]))⟩ (r' := .arr g T _) ⟨hg.1, setRow_heap w g _ _ T _ hg.2⟩ (fun g' hg' => .inl hg')⟩
  unfold execOp
  simp only [ho, hx, hy, Instr.storeAt, Instr.sureAddr, storeVar, sizeOf, typeInfo, hq, hsz, hu, Sem.run_bind, Sem.run_pure, Result.andThen_ok, run_program, List.size_toArray, ne_eq, not_true_eq_false, if_false, hst]
end
end Go.Proofs.Ytpfoeeiacfadfaa
