/-
  Statements that draw their order and make new blocks: each order walked, what only reads taken first.
-/
import Derived.Test.YtijghhecclaafaaDoorV12
import Derived.OrdersHeld
namespace Go.Proofs.YtijghhecclaafaaDoor
open Go.RowKit

theorem O.draw (w : World) : Below w.heap.size w { w with drawn := w.drawn + 1 } := Below.drewN' _ _ 1
theorem Mem.world {w0 w : World} {L : List Blk} (_m : Mem w0 w L) : ∃ x, x = w := ⟨_, rfl⟩
theorem Mem.swap {w0 w : World} {b1 b2 : Blk} {L : List Blk} (m : Mem w0 w (b1 :: b2 :: L)) : Mem w0 w (b2 :: b1 :: L) := by
  have h1 := List.pairwise_cons.1 m.nd
  have h2 := List.pairwise_cons.1 h1.2
  refine ⟨m.below, fun b hb => m.own b ?_, List.pairwise_cons.2 ⟨fun b hb => ?_, List.pairwise_cons.2 ⟨fun b hb => h1.1 b (List.mem_cons_of_mem _ hb), h2.2⟩⟩, fun b hb => m.arr b ?_⟩
  · rcases List.mem_cons.1 hb with rfl | hb
    · simp
    · rcases List.mem_cons.1 hb with rfl | hb
      · simp
      · simp [hb]
  · rcases List.mem_cons.1 hb with rfl | hb
    · exact Ne.symm (h1.1 _ (List.mem_cons_self))
    · exact h2.1 b hb
  · rcases List.mem_cons.1 hb with rfl | hb
    · simp
    · rcases List.mem_cons.1 hb with rfl | hb
      · simp
      · simp [hb]
section
variable {P : Program} {ops : Array Oper} {Q : Exit → Act → World → Prop} {K : Act → World → Prop} {a : Act} {w : World} {i : Nat} {o : Oper}
theorem O.value {w' : World} {v : Value} (hi : ops[i]? = some o) (hw : Region.wanted o (yielded ops a.tmps) = true) (h : (execOp a.eval o).run P w = .ok (.value v) w') (hK : K (a.put o.dst v) w') : wpOp P ops Q i K a w := by
  unfold wpOp
  simp only [hi, hw, if_true, Oper.wp, h, Oper.upon]
  exact .inl hK
theorem O.skip {w' : World} (hi : ops[i]? = some o) (hw : Region.wanted o (yielded ops a.tmps) = true) (hd : o.dst = none) (h : (execOp a.eval o).run P w = .ok .skip w') (hK : K a w') : wpOp P ops Q i K a w := by
  unfold wpOp
  simp only [hi, hw, if_true, Oper.wp, h, Oper.upon, hd]
  exact .inl hK
theorem O.call (hi : ops[i]? = some o) (hw : Region.wanted o (yielded ops a.tmps) = true) (f : FuncId) (args : Array Value) (v : Value) (hrun : (execOp a.eval o).run P w = .ok (.enter f args) w) (hc : Calls P f args w fun e w' => e = .returned v ∧ Below w.heap.size w w')
    (hK : ∀ w', Below w.heap.size w w' → K (a.put o.dst v) w') : wpOp P ops Q i K a w := by
  unfold wpOp
  simp only [hi, hw, if_true, Oper.wp, hrun, Oper.upon]
  refine .inl (hc.mono fun e w' ⟨he, hb⟩ => ?_)
  subst he
  exact hK w' hb
end
/-! The moves, with slots, places and what has come up written out. -/
section
variable {P : Program} {ops : Array Oper} {Q : Exit → Act → World → Prop} {S : World → Prop} {a : Act} {w : World} {o : Oper} {listed : Array Bool}
theorem O.start {id n : Nat} (l0 : Array Bool) (hn : ops.size = n) (hl : Array.replicate n false = l0) (hm : P.follows .mixedOrders = true) (h : wpAnyH P .any ops Q S n l0 a { w with drawn := w.drawn + 1 }) : (Code.region id ops true).wp P Q a w := by
  subst hn hl
  exact wp_region_held hm h
theorem O.take (i : Nat) (d : Tmp) (v : Value) (fuel : Nat) (l' : Array Bool) (hi : ops[i]? = some o) (hd : o.dst = some d) (hl : listed.setIfInBounds i true = l') (hs : Region.noSelect ops = true) (hf : Region.free .any ops listed i = true) (hr : (Region.ready .any ops listed).contains i = true)
    (hQ : ∀ c a w, Q (.panic c) (a.put (some d) v) w → Q (.panic c) a w) (hw : Region.wanted o (yielded ops a.tmps) = true) (hy : ∀ w, S w → (execOp a.eval o).run P w = .ok (.value v) w) (hS : S w)
    (h : wpAnyH P .any ops Q S fuel l' (a.put (some d) v) w) : wpAnyH P .any ops Q S (fuel + 1) listed a w := by
  subst hl
  exact wpAnyH_take hi hs hf hr (by rw [hd]; exact hQ) (.inl ⟨hw, hy⟩) hS (by rw [hd]; exact h)
/-- One of those that may come up. -/
def O.next (P : Program) (ops : Array Oper) (Q : Exit → Act → World → Prop) (S : World → Prop) (fuel : Nat) (listed : Array Bool) (a : Act) (w : World) (i : Nat) : Prop := wpOp P ops Q i (fun a' w' => S w' ∧ wpAnyH P .any ops Q S fuel (listed.setIfInBounds i true) a' w') a w
theorem O.one {fuel : Nat} (i : Nat) (hr : Region.ready .any ops listed = [i]) (h : O.next P ops Q S fuel listed a w i) : wpAnyH P .any ops Q S (fuel + 1) listed a w :=
  wpAnyH_all hr (by simp) (fun j hj => by obtain rfl := List.mem_singleton.1 hj; exact h)
theorem O.two {fuel : Nat} (i j : Nat) (hr : Region.ready .any ops listed = [i, j]) (h1 : O.next P ops Q S fuel listed a w i) (h2 : O.next P ops Q S fuel listed a w j) : wpAnyH P .any ops Q S (fuel + 1) listed a w :=
  wpAnyH_all hr (by simp) (fun k hk => by
    rcases List.mem_cons.1 hk with rfl | hk
    · exact h1
    · obtain rfl := List.mem_singleton.1 hk; exact h2)
theorem O.three {fuel : Nat} (i j l : Nat) (hr : Region.ready .any ops listed = [i, j, l]) (h1 : O.next P ops Q S fuel listed a w i) (h2 : O.next P ops Q S fuel listed a w j) (h3 : O.next P ops Q S fuel listed a w l) : wpAnyH P .any ops Q S (fuel + 1) listed a w :=
  wpAnyH_all hr (by simp) (fun k hk => by
    rcases List.mem_cons.1 hk with rfl | hk
    · exact h1
    · rcases List.mem_cons.1 hk with rfl | hk
      · exact h2
      · obtain rfl := List.mem_singleton.1 hk; exact h3)
theorem O.ncall {fuel : Nat} {i : Nat} (d : Tmp) (l' : Array Bool) (hi : ops[i]? = some o) (hd : o.dst = some d) (hl : listed.setIfInBounds i true = l') (hw : Region.wanted o (yielded ops a.tmps) = true) (f : FuncId) (args : Array Value) (v : Value) (hrun : (execOp a.eval o).run P w = .ok (.enter f args) w) (hc : Calls P f args w fun e w' => e = .returned v ∧ Below w.heap.size w w')
    (hK : ∀ w', Below w.heap.size w w' → S w' ∧ wpAnyH P .any ops Q S fuel l' (a.put (some d) v) w') : O.next P ops Q S fuel listed a w i := by
  subst hl
  exact O.call hi hw f args v hrun hc (by rw [hd]; exact hK)
end
section
variable {ops : Array Oper} {Q : Exit → Act → World → Prop} {a : Act} {w w0 wR : World} {o : Oper} {L : List Blk} {listed : Array Bool}
theorem O.nalloc {fuel : Nat} {i : Nat} (d : Tmp) (l' : Array Bool) (m : Mem w0 w L) (hS : Below wR.heap.size wR w) (hi : ops[i]? = some o) (hd : o.dst = some d) (hl : listed.setIfInBounds i true = l') (hw : Region.wanted o (yielded ops a.tmps) = true) (ho : o.op = .alloc 24)
    (hK : ∀ g w', wR.heap.size ≤ g → Mem w0 w' (⟨g, 24, c64 (w4 0)⟩ :: L) → Below wR.heap.size wR w' → wpAnyH Tryd.prog .any ops Q (fun w' => Below wR.heap.size wR w') fuel l' (a.put (some d) (.pointer (some ⟨g, 0, none⟩))) w') : O.next Tryd.prog ops Q (fun w' => Below wR.heap.size wR w') fuel listed a w i := by
  subst hl
  obtain ⟨h1, h2, h3⟩ := exec_alloc_arr Tryd.aw (ρ := a.eval) (o := o) (w := w) ho
  rw [zeros4] at h1 h2 h3
  refine O.value hi hw h1 ?_
  have hb := hS.trans (Below.mono h3 hS.size)
  rw [hd]
  exact ⟨hb, hK _ _ hS.size (m.new (Nat.le_refl _) h2 h3) hb⟩
theorem O.nstore {fuel : Nat} {i : Nat} (l' : Array Bool) (m : Mem w0 w L) (hS : Below wR.heap.size wR w) (hi : ops[i]? = some o) (hd : o.dst = none) (hl : listed.setIfInBounds i true = l') (hw : Region.wanted o (yielded ops a.tmps) = true) (x y : Operand) (ho : o.op = .store 24 x y) (j : Nat) {g k : Nat} (n : Nat) (hj : Blk.at L j ⟨g, 24, c64 (w4 k)⟩) (hg : wR.heap.size ≤ g)
    (hx : a.eval x = .pointer (some ⟨g, 0, none⟩)) (hy : a.eval y = wv n) (hK : ∀ w', Mem w0 w' (Blk.put L j (c64 (w4 n))) → Below wR.heap.size wR w' → wpAnyH Tryd.prog .any ops Q (fun w' => Below wR.heap.size wR w') fuel l' a w') : O.next Tryd.prog ops Q (fun w' => Below wR.heap.size wR w') fuel listed a w i := by
  subst hl
  have h := exec_store_arr Tryd.aw x y ho g (c64 (w4 k)) (c64 (w4 n)) (wl k) (wl n) (c64_one _) hx hy (m.get j hj)
  have hb := But.row g w (c64 (w4 n)).toArray
  have hb' := hS.trans (hb.below hg)
  exact O.skip hi hw hd h.1 ⟨hb', hK _ (m.put j hj hb h.2) hb'⟩
end
end Go.Proofs.YtijghhecclaafaaDoor
