/-
  Plain facts on slices of uint64 that lie at the beginning of a block of their own: a cell read, a cell written, in any statement.
-/
import Derived.Test.YtpfoeeiacfadfaaMem2
namespace Go.Proofs.Ytpfoeeiacfadfaa
open Go.RowKit

theorem Try.ws : WT Try.prog 71 22 := ⟨by kernel_rfl, by kernel_rfl, by kernel_rfl⟩
section
variable {P : Program} {T E : TypeId}
theorem run_indexAt_sl (t : WT P T E) (w : World) (g n cap i : Nat) (k : IntKind) (hi : i < n) : (Instr.indexAt T (.slice (some ⟨g, 0, none⟩) n cap) (.int k i)).run P w = .ok (.pointer (some ⟨g, i, none⟩)) w := by
  obtain ⟨i0, hi0, hz0, hz1, hz2⟩ := info_parts t.info
  simp [Instr.indexAt, asIntOf, run_underlying t.sl, hi, sizeOf, typeInfo, hi0, hz1, Addr.add_lit]
theorem exec_sidx (t : WT P T E) {ρ : Operand → Value} {o : Oper} {w : World} (x y : Operand) (ho : o.op = .indexAddr T x y) (g n cap i : Nat) (k : IntKind) (u : Int) (hu : u = (i : Int)) (hi : i < n) (hx : ρ x = .slice (some ⟨g, 0, none⟩) n cap) (hy : ρ y = .int k u) :
    (execOp ρ o).run P w = .ok (.value (.pointer (some ⟨g, i, none⟩))) w := by
  subst hu
  unfold execOp
  simp only [ho, hx, hy, Sem.run_bind, Sem.run_pure, Result.andThen_ok, run_indexAt_sl t w g n cap i k hi]
theorem exec_getc {F : TypeId} {k : IntKind} (hF : P.underlying F = some (.int k)) {ρ : Operand → Value} {o : Oper} {w : World} (x : Operand) (ho : o.op = .load F x) (g i : Nat) (v : Value) (hv : w.cell? ⟨g, i, none⟩ = some v) (hx : ρ x = .pointer (some ⟨g, i, none⟩)) :
    (execOp ρ o).run P w = .ok (.value v) w := by
  unfold execOp
  have h : (Instr.loadAt F (.pointer (some ⟨g, i, none⟩))).run P w = .ok v w := by simp [Instr.loadAt, Instr.sureAddr, loadVar, isAgg, run_underlying hF, hv]
  simp only [ho, hx, Sem.run_bind, Sem.run_pure, Result.andThen_ok, h]
end
/-- A row of one's own that is not empty: where it lies. -/
theorem Ow.shape {E : TypeId} {base : Nat} {w : World} {v : Value} {l : List Nat} (h : Ow E base w v l) (hl : l ≠ []) : ∃ g cap junk, v = .slice (some ⟨g, 0, none⟩) l.length cap ∧ base ≤ g ∧ Arr E w g (c64 l ++ junk) := by
  obtain ⟨h1, h2⟩ := h
  rcases h2 with ⟨rfl, hn⟩ | ⟨g, cap, cur, rfl, hb, hg, hnc, hcm, hcs, htake⟩
  · exact absurd (List.eq_nil_of_length_eq_zero hn) hl
  · refine ⟨g, cap, cur.toList.drop (l.length * 1), rfl, hb, ?_⟩
    unfold Arr
    rw [← htake, List.take_append_drop]
    simpa using hg
theorem cell_same {T : TypeId} {w w' : World} {g i k j : Nat} {cs : List Value} {u : Value} (h : Arr T w g cs) (h' : Arr T w' g (cs.set i u)) (hb : But g w w') (hne : j ≠ i) : w'.cell? ⟨k, j, none⟩ = w.cell? ⟨k, j, none⟩ := by
  by_cases e : k = g
  · subst e
    rw [cell_of_row w' k j _ T (0, 0) h', cell_of_row w k j _ T (0, 0) h]
    simp [Ne.symm hne]
  · unfold World.cell?
    rw [hb.block k e]
theorem row_cell {T : TypeId} {w : World} {g j : Nat} {l : List Nat} {junk : List Value} (h : Arr T w g (c64 l ++ junk)) (hj : j < l.length) : w.cell? ⟨g, j, none⟩ = some (.int .u64 (gw l j : Nat)) := by
  rw [cell_of_row w g j _ T (0, 0) h]
  have : j < (c64 l).length := by rw [c64_length]; exact hj
  simp only [List.getElem?_toArray]
  rw [List.getElem?_append_left this, c64_gw hj]
theorem row_set (l : List Nat) (junk : List Value) (j v : Nat) (hj : j < l.length) : (c64 l ++ junk).set j (.int .u64 (v : Int)) = c64 (l.set j v) ++ junk := by
  rw [List.set_append_left _ _ (by rw [c64_length]; exact hj), c64_set]
/-- The digits that a call has made. -/
def NewD (B n : Nat) (l : List Nat) (v : Value) (w : World) : Prop := ∃ g cap junk, v = .slice (some ⟨g, 0, none⟩) n cap ∧ B ≤ g ∧ Arr 22 w g (c64 l ++ junk)
theorem NewD.gr {B n : Nat} {l : List Nat} {v : Value} {w w' : World} (h : NewD B n l v w) (hb : Gr w w') : NewD B n l v w' := by
  obtain ⟨g, cap, junk, e, h1, h2⟩ := h
  exact ⟨g, cap, junk, e, h1, h2.gr hb⟩
theorem Mem.sep1 {w0 w w' : World} {g B : Nat} {T : TypeId} {cs : List Value} (m : Mem w0 w [⟨g, T, cs⟩]) (hb : Below B w w') (hg : g < B) (hB : w0.heap.size ≤ B) : Mem w0 w' [⟨g, T, cs⟩] :=
  ⟨m.below.trans (hb.mono hB), m.own, m.nd, fun b h => by
    obtain rfl := List.mem_singleton.1 h
    exact (m.get 0 rfl).below hb hg⟩
theorem gr_alloc (w : World) (o : Obj) : Gr w (w.alloc o) := (Below.refl _ _).alloc (Nat.le_refl _) _
end Go.Proofs.Ytpfoeeiacfadfaa
