/-
  Plain facts on a slice of bytes that is made whole and filled place by place.
-/
import Derived.Test.YtcbfjhcblajkjaaArr
namespace Go.Proofs.Ytcbfjhcblajkjaa
open Go.RowKit

section
variable {P : Program} {T E : TypeId}
/-- make([]byte, n) -/
theorem wpList_make_nums (t : BT P T E) {w : World} {ops : Array Oper} {rest : List Oper} {o : Oper} {a : Act} {Q : Exit → Act → World → Prop} (hgd : o.guard = none) (s c : Operand)
    (ho : o.op = Op.makeSlice T s c) (base : Nat) (kl kc : IntKind) (n : Nat) (hs : a.eval s = .int kl (n : Int)) (hc : a.eval c = .int kc (n : Int)) (h1 : n ≤ 70368744177664) (hbase : base ≤ w.heap.size)
    (h : ∀ g w', Own E base w' (.slice (some ⟨g, 0, none⟩) n n) (List.replicate n 0) → Below base w w' → Below w.heap.size w w' → w.heap.size ≤ g → wpList P ops Q rest (a.put o.dst (.slice (some ⟨g, 0, none⟩) n n)) w') : wpList P ops Q (o :: rest) a w := by
  obtain ⟨i0, hi, hz0, hz1, hz2⟩ := info_parts t.info
  refine wpList_make_full w hgd s c T ho base E i0 (.int .u8 0) 1 t.sl hi hz0 hz1 kl kc _ _ n hs hc rfl rfl (by rw [hz2]; omega) (by unfold maxLen; omega) hbase fun w' h2 h3 => ?_
  refine h w.heap.size w' ?_ ((Below.refl base w).grown h3 hbase fun k hk => by cases hk) ((Below.refl w.heap.size w).grown h3 (Nat.le_refl _) fun k hk => by cases hk) (Nat.le_refl _)
  unfold Own
  rw [List.length_replicate]
  have e : (madeCells (Value.int IntKind.u8 0).cells (n * 1)).toList = cellsOf (List.replicate n 0) := by
    rw [Nat.mul_one]
    show (madeCells #[Value.int IntKind.u8 0] n).toList = _
    rw [toList_madeCells_one]
    simp [cellsOf]
  rw [e] at h2
  exact h2

/-- append(own, read...), and what else has turned -/
theorem wpList_append_by (t : BT P T E) {w : World} {ops : Array Oper} {rest : List Oper} {o : Oper} {a : Act} {Q : Exit → Act → World → Prop} (hgd : o.guard = none) (s x : Operand)
    (ho : o.op = .call { callee := .builtin .append, args := #[s, x], argTypes := #[T, T] })
    (base B : Nat) (v u : Value) (l m : List UInt8) (hs : a.eval s = v) (hown : Own E base w v l) (hx : a.eval x = u) (hrd : Rd B w u m) (hlen : l.length + m.length ≤ 70368744177664) (hbase : base ≤ w.heap.size)
    (h : ∀ v' w', Own E base w' v' (l ++ m) → Below base w w' → w.grownBy w' v.ownBlock → wpList P ops Q rest (a.put o.dst v') w') : wpList P ops Q (o :: rest) a w := by
  refine wpList_plain hgd fun K hK => ?_
  obtain ⟨v', w', hr, h1, h2⟩ := run_append_rd t o.type w base B v u l m hown hrd hlen hbase
  unfold Oper.wp execOp
  simp only [ho, resolve, invoke, builtin, Sem.run_bind, Sem.run_pure, Result.andThen_ok, List.map_toArray, List.map_cons, List.map_nil, hs, hx, hr]
  exact hK _ _ (h v' w' h1 ((Below.refl base w).grown h2 hbase fun k hk => (World.ownsRow.lt hown k hk).1) h2)
end

/-- Another row has turned. -/
theorem Own.kept {E : TypeId} {base : Nat} {w w' B_ : World} {u : Value} {g n c : Nat} {l m : List UInt8} (h : Own E base w (.slice (some ⟨g, 0, none⟩) n c) l) (hu : Own E base B_ u m) (hg : w.grownBy w' u.ownBlock) (hB : B_.heap.size ≤ g) : Own E base w' (.slice (some ⟨g, 0, none⟩) n c) l :=
  World.ownsRow.kept h hg (.inr fun e => by
    have := (World.ownsRow.lt hu g e.symm).2
    omega)

/-- b[j] = c -/
theorem Own.store {E : TypeId} {base : Nat} {w : World} {g n cap : Nat} {l : List UInt8} (h : Own E base w (.slice (some ⟨g, 0, none⟩) n cap) l) (j : Nat) (c : UInt8) (z : Int) (hz : z = (c.toNat : Int)) :
    Own E base (w.setCell ⟨g, j, none⟩ (.int .u8 z)) (.slice (some ⟨g, 0, none⟩) n cap) (l.set j c) ∧ Below base w (w.setCell ⟨g, j, none⟩ (.int .u8 z)) := by
  subst hz
  have hn : l.length = n := by
    obtain ⟨_, h2⟩ := h
    rcases h2 with ⟨h', _⟩ | ⟨g', cap', cur, h', _⟩
    · simp at h'
    · simp only [Value.slice.injEq] at h'
      exact h'.2.1.symm
  subst hn
  have h' : w.ownsRow base E 1 (.slice (some ⟨g, 0, none⟩) l.length cap) l.length (cellsOf l) := h
  obtain ⟨h1, h2⟩ := World.ownsRow.stored h' j (.int .u8 (c.toNat : Int))
  refine ⟨?_, ?_⟩
  · unfold Own
    rw [List.length_set, ← cellsOf_set]
    exact h1
  · have hb := (World.ownsRow.lt h' g rfl).1
    exact ⟨h2.os, h2.tape, h2.output, h2.size, fun k hk => by
      by_cases hs : k < w.heap.size
      · exact h2.block k hs (fun e => by simp at e; omega)
      · have := World.ownsRow.lt h' g rfl; omega⟩
/-- What stands there ahead of it. -/
theorem Own.was {E : TypeId} {base : Nat} {w : World} {g n cap : Nat} {l : List UInt8} (h : Own E base w (.slice (some ⟨g, 0, none⟩) n cap) l) (hn : l.length = n) (j : Nat) (hj : j < l.length) :
    w.cell? ⟨g, j, none⟩ = some (.int .u8 (l[j].toNat : Int)) ∧ w.frozen? ⟨g, j, none⟩ = false := by
  subst hn
  have h' : w.ownsRow base E 1 (.slice (some ⟨g, 0, none⟩) l.length cap) l.length (cellsOf l) := h
  refine ⟨?_, World.ownsRow.frozenAt h' j⟩
  rw [World.ownsRow.cellAt h' j (by omega)]
  simp [cellsOf, hj]
theorem set_here (l : List UInt8) (k : Nat) (c : UInt8) (m : List UInt8) (hm : m.length = k) (hk : k < l.length) : (m ++ l.drop k).set k c = m ++ [c] ++ l.drop (k + 1) := by
  rw [List.set_append_right _ _ (by omega), hm, Nat.sub_self, List.drop_eq_getElem_cons hk, List.set_cons_zero]
  simp only [List.append_assoc, List.cons_append, List.nil_append]
end Go.Proofs.Ytcbfjhcblajkjaa
