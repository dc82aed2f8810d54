/-
  Small laws for ShaPieces: a hash and an own slice beside each other; two hashes that are alike are not unlike.
-/
import Derived.Test.YtabhmjaellagmaaDoorS10
namespace Go.Proofs.YtabhmjaellagmaaDoor
open Go.RowKit

theorem Hash.below {w w' : World} {g B : Nat} {all : List UInt8} (h : Hash w g all) (hb : Below B w w') (hg : g < B) : Hash w' g all := by
  obtain ⟨nums, rest, h⟩ := h
  refine ⟨nums, rest, ?_, h.ln, h.lr, h.num, h.held, h.two⟩
  have ha := h.arr
  unfold Arr at ha ⊢
  rw [hb.block g hg]
  exact ha
theorem Own.gx {E : TypeId} {base g : Nat} {w w' : World} {v : Value} {l : List UInt8} (h : Own E base w v l) (hx : Gx g w w') (hg : g < base) : Own E base w' v l := by
  refine ⟨h.1, ?_⟩
  rcases h.2 with hn | ⟨k, cap, cur, rfl, hbg, hgg, rest⟩
  · exact .inl hn
  · refine .inr ⟨k, cap, cur, rfl, hbg, ?_, rest⟩
    rw [hx.block k (Array.getElem?_eq_some_iff.1 hgg).1 (by omega)]
    exact hgg
theorem exec_neq_same {ρ : Operand → Value} {o : Oper} {w : World} (x y : Operand) (T : TypeId) (ho : o.op = .binOp .neq 24 x y T) (l : List UInt8) (hl : l.length = 32) (hx : ρ x = .agg (cellsOf l).toArray) (hy : ρ y = .agg (cellsOf l).toArray) :
    (execOp ρ o).run Tryd.prog w = .ok (.value (.bool false)) w := by
  have h0 := run_equal_bytes Tryd.ah (by kernel_rfl) w l l hl hl
  have h : (binOp .neq 24 (.agg (cellsOf l).toArray) (.agg (cellsOf l).toArray)).run Tryd.prog w = .ok (.bool !(decide (l = l))) w := by
    have h' : (Op.equalIn Op.maxDepth 24 (.agg (cellsOf l).toArray) (.agg (cellsOf l).toArray)).run Tryd.prog w = .ok (decide (l = l)) w := h0
    simp only [binOp, Op.equal, Sem.run_bind, h', Result.andThen_ok, Sem.run_pure]
  rw [decide_eq_true rfl, Bool.not_true] at h
  have hm : Tryd.prog.eqGuardType Tryd.prog.depth 24 = false := by kernel_rfl
  unfold execOp
  simp only [ho, hx, hy, Sem.run_bind, Sem.run_pure, Result.andThen_ok, run_eqGuard_agg w _ 24 x y _ _ hm, h]
end Go.Proofs.YtabhmjaellagmaaDoor
