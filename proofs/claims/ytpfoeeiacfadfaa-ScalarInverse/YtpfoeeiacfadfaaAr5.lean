/-
  More on worlds in which some blocks turn: two blocks; a block that is made on the way.
-/
import Derived.Test.YtpfoeeiacfadfaaAr4
namespace Go.Proofs.Ytpfoeeiacfadfaa
open Go.RowKit

section
variable {P : Program} {A E : TypeId} {N : Nat} {z : Value} {V : Nat → List Value → List Value → Prop}

theorem V_fit (T : TypeId) (V : Nat → List Value → List Value → Prop) (ht : ∀ k a b c, V k a b → V k b c → V k a c) (w0 : World) (K0 : FuncId → Array Value → Value → World → Prop) (hK : ∀ f args v w w', K0 f args v w → K0 f args v w') : Mild2.Fit (Vw T V) (Vw T V w0) K0 where
  refl := Vw.refl
  trans := fun _ _ _ => Vw.trans ht
  inC := fun _ _ => Vw.trans ht
  keep := fun _ _ _ _ _ h _ => hK _ _ _ _ _ h

/-- A block is written whole. -/
theorem store_arrV (t : AT P A E N z) {g : Nat} {o n : List Value} {w : World} (hV : V g o n) (h0 : Arr A w g o ∨ Arr A w g n) (ho' : o.length = N) (hn : n.length = N) (h1 : ∀ v ∈ n, v.oneCell' = true) {ρ : Operand → Value} {op : Oper} (x y : Operand) (ho : op.op = .store A x y)
    (hx : ρ x = .pointer (some ⟨g, 0, none⟩)) (hy : ρ y = .agg n.toArray) : ∃ w2, (execOp ρ op).run P w = .ok .skip w2 ∧ Vw A V w w2 ∧ Arr A w2 g n := by
  rcases h0 with hr | hr
  · have h := exec_store_arr t x y ho g o n ho' hn h1 hx hy hr
    exact ⟨_, h.1, Vw.row hr h.2 hV, h.2⟩
  · have h := exec_store_arr t x y ho g n n hn hn h1 hx hy hr
    exact ⟨_, h.1, Vw.row_same hr h.2, h.2⟩
theorem store_cellV {T : TypeId} {g i : Nat} {o n : List Value} {w : World} (hV : V g o n) (h0 : Arr T w g o ∨ Arr T w g n) (u : Value) (hn : n = o.set i u) (hi : i < o.length) (h1 : u.oneCell' = true) {ρ : Operand → Value} {op : Oper} (F : TypeId) (x y : Operand) (ho : op.op = .store F x y) (hF : (P.info? F).map (·.size) = some 1)
    (hx : ρ x = .pointer (some ⟨g, i, none⟩)) (hy : ρ y = u) : ∃ w2, (execOp ρ op).run P w = .ok .skip w2 ∧ Vw T V w w2 ∧ Arr T w2 g n := by
  rcases h0 with hr | hr
  · have h := exec_store_cell F x y ho hF g i o u hi h1 hx hy T hr
    rw [← hn] at h
    exact ⟨_, h.1, Vw.row hr h.2 hV, h.2⟩
  · have h := exec_store_cell F x y ho hF g i n u (by rw [hn]; simpa using hi) h1 hx hy T hr
    have e : n.set i u = n := by rw [hn]; simp
    rw [e] at h
    exact ⟨_, h.1, Vw.row_same hr h.2, h.2⟩
end

/-- Two blocks turn. -/
def V2 (g : Nat) (o n : List Value) (g' : Nat) (o' n' : List Value) : Nat → List Value → List Value → Prop := fun k cs ds => (k = g ∧ cs = o ∧ ds = n) ∨ (k = g' ∧ cs = o' ∧ ds = n')
theorem V2_trans {g : Nat} {o n : List Value} {g' : Nat} {o' n' : List Value} (hg : g ≠ g') : ∀ k a b c, V2 g o n g' o' n' k a b → V2 g o n g' o' n' k b c → V2 g o n g' o' n' k a c := by
  rintro k a b c (⟨rfl, rfl, rfl⟩ | ⟨rfl, rfl, rfl⟩) (⟨h1, h2, h3⟩ | ⟨h1, h2, h3⟩)
  · exact .inl ⟨rfl, rfl, h3⟩
  · exact absurd h1 hg
  · exact absurd h1.symm hg
  · exact .inr ⟨rfl, rfl, h3⟩
section
variable {T : TypeId} {g g' : Nat} {o n o' n' : List Value} {w w' : World}
theorem Vw.keep2 {S : TypeId} {k : Nat} {cs : List Value} (h : Vw T (V2 g o n g' o' n') w w') (hr : Arr S w k cs) (hk : k ≠ g) (hk' : k ≠ g') : Arr S w' k cs := h.keep hr (fun _ _ hv => by rcases hv with hv | hv; exact hk hv.1; exact hk' hv.1)
theorem Vw.turn2a (hg : g ≠ g') (h : Vw T (V2 g o n g' o' n') w w') (hr : Arr T w g o) : Arr T w' g o ∨ Arr T w' g n := by
  rcases h.turn hr with h1 | ⟨ds, hv, h1⟩
  · exact .inl h1
  · rcases hv with ⟨_, _, rfl⟩ | ⟨e, _⟩
    · exact .inr h1
    · exact absurd e hg
theorem Vw.turn2b (hg : g ≠ g') (h : Vw T (V2 g o n g' o' n') w w') (hr : Arr T w g' o') : Arr T w' g' o' ∨ Arr T w' g' n' := by
  rcases h.turn hr with h1 | ⟨ds, hv, h1⟩
  · exact .inl h1
  · rcases hv with ⟨e, _⟩ | ⟨_, _, rfl⟩
    · exact absurd e.symm hg
    · exact .inr h1
theorem Vw.new2a (hg : g ≠ g') : Mild2.Stab (Vw T (V2 g o n g' o' n')) (fun w => Arr T w g n) := by
  intro w w' h hr
  rcases h.turn hr with h1 | ⟨ds, hv, h1⟩
  · exact h1
  · rcases hv with ⟨_, _, rfl⟩ | ⟨e, _⟩
    · exact h1
    · exact absurd e hg
theorem Vw.new2b (hg : g ≠ g') : Mild2.Stab (Vw T (V2 g o n g' o' n')) (fun w => Arr T w g' n') := by
  intro w w' h hr
  rcases h.turn hr with h1 | ⟨ds, hv, h1⟩
  · exact h1
  · rcases hv with ⟨e, _⟩ | ⟨_, _, rfl⟩
    · exact absurd e.symm hg
    · exact h1
end

/-- New blocks turn from their first content to one other. -/
def VN (B : Nat) (o n : List Value) : Nat → List Value → List Value → Prop := fun k cs ds => B ≤ k ∧ cs = o ∧ ds = n
theorem VN_trans {B : Nat} {o n : List Value} : ∀ k a b c, VN B o n k a b → VN B o n k b c → VN B o n k a c := by
  rintro k a b c ⟨h, rfl, rfl⟩ ⟨_, _, rfl⟩; exact ⟨h, rfl, rfl⟩
/-- A pointer to a new block, of the one content or the other. -/
def NewB (T : TypeId) (B : Nat) (o n : List Value) (v : Value) (w : World) : Prop := ∃ g, v = .pointer (some ⟨g, 0, none⟩) ∧ B ≤ g ∧ (Arr T w g o ∨ Arr T w g n)
section
variable {T : TypeId} {B : Nat} {o n : List Value} {w w' : World}
theorem NewB.stab (v : Value) : Mild2.Stab (Vw T (VN B o n)) (NewB T B o n v) := by
  rintro w w' h ⟨g, rfl, hB, hr⟩
  refine ⟨g, rfl, hB, ?_⟩
  rcases hr with hr | hr
  · rcases h.turn hr with h1 | ⟨ds, ⟨_, _, rfl⟩, h1⟩
    · exact .inl h1
    · exact .inr h1
  · rcases h.turn hr with h1 | ⟨ds, ⟨_, _, rfl⟩, h1⟩
    · exact .inr h1
    · exact .inr h1
theorem Vw.newN {g : Nat} : Mild2.Stab (Vw T (VN B o n)) (fun w => Arr T w g n) := by
  intro w w' h hr
  rcases h.turn hr with h1 | ⟨ds, ⟨_, _, rfl⟩, h1⟩
  · exact h1
  · exact h1
theorem Vw.keepN {S : TypeId} {k : Nat} {cs : List Value} (h : Vw T (VN B o n) w w') (hr : Arr S w k cs) (hk : k < B) : Arr S w' k cs := h.keep hr (fun _ _ hv => by have := hv.1; omega)
theorem new_arr {P : Program} {A E : TypeId} {N : Nat} {z : Value} (t : AT P A E N z) {B : Nat} {n : List Value} {w : World} (hB : B ≤ w.heap.size) {ρ : Operand → Value} {op : Oper} (ho : op.op = .alloc A) :
    ∃ v w2, (execOp ρ op).run P w = .ok (.value v) w2 ∧ Vw A (VN B (List.replicate N z) n) w w2 ∧ NewB A B (List.replicate N z) n v w2 := by
  obtain ⟨h1, h2, h3⟩ := exec_alloc_arr t (ρ := ρ) (o := op) (w := w) ho
  exact ⟨_, _, h1, .of_gr h3, _, rfl, hB, .inl h2⟩
end

theorem wpList_index_c64 {P : Program} {A E : TypeId} {N : Nat} {z : Value} (t : AT P A E N z) {w : World} {ops : Array Oper} {rest : List Oper} {o : Oper} {a : Act} {Q : Exit → Act → World → Prop} (hgd : o.guard = none) (x y : Operand) (ho : o.op = .index A x y)
    (cs : List Value) (i : Nat) (k : IntKind) (v : Value) (hc : cs.length = N) (hv : cs[i]? = some v) (hx : a.eval x = .agg cs.toArray) (u : Int) (hu : u = (i : Int)) (hy : a.eval y = .int k u)
    (h : wpList P ops Q rest (a.put o.dst v) w) : wpList P ops Q (o :: rest) a w := by
  subst hu
  obtain ⟨hi, rfl⟩ := List.getElem?_eq_some_iff.1 hv
  exact wpList_index_arr t hgd x y ho cs i k hc (by omega) hx hy h
end Go.Proofs.Ytpfoeeiacfadfaa
