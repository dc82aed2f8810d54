/-
  Numbers of 256 bits in blocks of memory: what single operations do to them.
-/
import Derived.Test.YtpfoeeiacfadfaaV1
import Derived.Test.YtpfoeeiacfadfaaV2
import Derived.Test.YtpfoeeiacfadfaaMem
namespace Go.Proofs.Ytpfoeeiacfadfaa
open Go.RowKit

theorem wv_len (n : Nat) : (c64 (w4 n)).length = 4 := wl n
theorem wv_cell (n i : Nat) (h : i < 4) : (c64 (w4 n))[i]? = some (.int .u64 (gw (w4 n) i : Nat)) := c64_gw (by rw [w4_length]; exact h)
theorem wv_cellv (n i x : Nat) (h : i < 4) (hx : gw (w4 n) i = x) : (c64 (w4 n))[i]? = some (.int .u64 (x : Nat)) := by rw [← hx]; exact wv_cell n i h
section
variable {w0 w : World} {L : List Blk} {ops : Array Oper} {rest : List Oper} {o : Oper} {a : Act} {Q : Exit → Act → World → Prop}
theorem W.box (m : Mem w0 w L) (hgd : o.guard = none) (x : Operand) (ho : o.op = .box 24 x) (n : Nat) (hx : a.eval x = wv n)
    (h : ∀ g w', Mem w0 w' (⟨g, 24, c64 (w4 n)⟩ :: L) → wpList Try.prog ops Q rest (a.put o.dst (.pointer (some ⟨g, 0, none⟩))) w') : wpList Try.prog ops Q (o :: rest) a w :=
  wpList_box_mem m hgd _ x ho _ hx h
theorem W.alloc (m : Mem w0 w L) (hgd : o.guard = none) (ho : o.op = .alloc 24) (d : Tmp) (hd : o.dst = some d)
    (h : ∀ g w', Mem w0 w' (⟨g, 24, c64 (w4 0)⟩ :: L) → wpList Try.prog ops Q rest (a.put o.dst (.pointer (some ⟨g, 0, none⟩))) w') : wpList Try.prog ops Q (o :: rest) a w :=
  wpList_alloc_mem Try.aw m hgd ho d hd _ zeros4 h
theorem W.load (m : Mem w0 w L) (hgd : o.guard = none) (x : Operand) (ho : o.op = .load 24 x) (i : Nat) {g n : Nat} (hi : Blk.at L i ⟨g, 24, c64 (w4 n)⟩) (hx : a.eval x = .pointer (some ⟨g, 0, none⟩))
    (h : wpList Try.prog ops Q rest (a.put o.dst (wv n)) w) : wpList Try.prog ops Q (o :: rest) a w := wpList_load_mem Try.aw m hgd x ho i hi (wl n) hx h
theorem W.loadL (m : Mem w0 w L) (hgd : o.guard = none) (x : Operand) (ho : o.op = .load 24 x) (i : Nat) {g : Nat} {l : List Nat} (n : Nat) (hn : l = w4 n) (hi : Blk.at L i ⟨g, 24, c64 l⟩) (hx : a.eval x = .pointer (some ⟨g, 0, none⟩))
    (h : wpList Try.prog ops Q rest (a.put o.dst (wv n)) w) : wpList Try.prog ops Q (o :: rest) a w := by subst hn; exact W.load m hgd x ho i hi hx h
theorem W.store (m : Mem w0 w L) (hgd : o.guard = none) (x y : Operand) (ho : o.op = .store 24 x y) (hd : o.dst = none) (i : Nat) {g : Nat} {l : List Nat} (n : Nat) (hi : Blk.at L i ⟨g, 24, c64 l⟩) (hl : l.length = 4) (hx : a.eval x = .pointer (some ⟨g, 0, none⟩)) (hy : a.eval y = wv n)
    (h : ∀ w', Mem w0 w' (Blk.put L i (c64 (w4 n))) → wpList Try.prog ops Q rest a w') : wpList Try.prog ops Q (o :: rest) a w :=
  wpList_store_mem Try.aw m hgd x y ho hd i (c64 (w4 n)) hi (by rw [c64_length]; exact hl) (wl n) (c64_one _) hx hy h
theorem W.idx (hgd : o.guard = none) (x y : Operand) (ho : o.op = .indexAddr 24 x y) (g i : Nat) (k : IntKind) (u : Int) (hu : u = (i : Int)) (hi : i < 4) (hx : a.eval x = .pointer (some ⟨g, 0, none⟩)) (hy : a.eval y = .int k u)
    (h : wpList Try.prog ops Q rest (a.put o.dst (.pointer (some ⟨g, i, none⟩))) w) : wpList Try.prog ops Q (o :: rest) a w := wpList_indexAt_arr Try.aw hgd x y ho g i k u hu hi hx hy h
theorem W.get (m : Mem w0 w L) (hgd : o.guard = none) (x : Operand) (ho : o.op = .load 22 x) (i j : Nat) {g n : Nat} (v : Nat) (hi : Blk.at L i ⟨g, 24, c64 (w4 n)⟩) (hj : j < 4) (hv : gw (w4 n) j = v) (hx : a.eval x = .pointer (some ⟨g, j, none⟩))
    (h : wpList Try.prog ops Q rest (a.put o.dst (.int .u64 (v : Int))) w) : wpList Try.prog ops Q (o :: rest) a w := wpList_get_mem Try.u64 m hgd x ho i j _ hi (wv_cellv n j v hj hv) hx h
theorem W.getL (m : Mem w0 w L) (hgd : o.guard = none) (x : Operand) (ho : o.op = .load 22 x) (i j : Nat) {g : Nat} {l : List Nat} (v : Nat) (hi : Blk.at L i ⟨g, 24, c64 l⟩) (hj : j < l.length) (hv : gw l j = v) (hx : a.eval x = .pointer (some ⟨g, j, none⟩))
    (h : wpList Try.prog ops Q rest (a.put o.dst (.int .u64 (v : Int))) w) : wpList Try.prog ops Q (o :: rest) a w := wpList_get_mem Try.u64 m hgd x ho i j _ hi (by rw [c64_gw hj, hv]) hx h
theorem W.set (m : Mem w0 w L) (hgd : o.guard = none) (x y : Operand) (ho : o.op = .store 22 x y) (hd : o.dst = none) (i j : Nat) {g : Nat} {l : List Nat} (v : Nat) (l' : List Nat) (hl' : l.set j v = l') (hi : Blk.at L i ⟨g, 24, c64 l⟩) (hj : j < l.length) (hx : a.eval x = .pointer (some ⟨g, j, none⟩)) (hy : a.eval y = .int .u64 (v : Int))
    (h : ∀ w', Mem w0 w' (Blk.put L i (c64 l')) → wpList Try.prog ops Q rest a w') : wpList Try.prog ops Q (o :: rest) a w :=
  wpList_set_mem m hgd _ x y ho hd Try.one64 i j _ (c64 l') (by rw [c64_set, hl']) hi (by rw [c64_length]; exact hj) rfl hx hy h
theorem W.build0 (hgd : o.guard = none) (ho : o.op = .build 24 #[]) (h : wpList Try.prog ops Q rest (a.put o.dst (wv 0)) w) : wpList Try.prog ops Q (o :: rest) a w := by
  have h' : wpList Try.prog ops Q rest (a.put o.dst (.agg (List.replicate 4 (Value.int .u64 0)).toArray)) w := by rw [zeros4]; exact h
  exact wpList_build_arr Try.aw hgd ho h'
theorem W.build1 (hgd : o.guard = none) (y0 : Operand) (ho : o.op = .build 24 #[(0, y0)]) (n : Nat) (hn : n < 18446744073709551616) (h0 : a.eval y0 = .int .u64 (n : Int)) (h : wpList Try.prog ops Q rest (a.put o.dst (wv n)) w) : wpList Try.prog ops Q (o :: rest) a w :=
  wpList_build1 Try.aw hgd y0 ho (w4 n) n (by simp only [w4_eq, List.cons.injEq, and_true]; omega) h0 h
theorem W.build4 (hgd : o.guard = none) (y0 y1 y2 y3 : Operand) (ho : o.op = .build 24 #[(0, y0), (1, y1), (2, y2), (3, y3)]) (n n0 n1 n2 n3 : Nat) (hn : w4 n = [n0, n1, n2, n3]) (h0 : a.eval y0 = .int .u64 (n0 : Int)) (h1 : a.eval y1 = .int .u64 (n1 : Int)) (h2 : a.eval y2 = .int .u64 (n2 : Int)) (h3 : a.eval y3 = .int .u64 (n3 : Int))
    (h : wpList Try.prog ops Q rest (a.put o.dst (wv n)) w) : wpList Try.prog ops Q (o :: rest) a w := wpList_build4 Try.aw hgd y0 y1 y2 y3 ho (w4 n) n0 n1 n2 n3 hn h0 h1 h2 h3 h
theorem W.exec_eql {ρ : Operand → Value} (x y : Operand) (T : TypeId) (ho : o.op = .binOp .eql 24 x y T) (n k : Nat) (b : Bool) (hn : n < M) (hk : k < M) (hb : decide (n = k) = b) (hx : ρ x = wv n) (hy : ρ y = wv k) : (execOp ρ o).run Try.prog w = .ok (.value (.bool b)) w := by
  have := exec_eql_c64 Try.aw Try.u64 Try.eqw (w := w) x y T ho (w4 n) (w4 k) (w4_length n) (w4_length k) hx hy
  rw [this, ← hb]
  congr 3
  exact decide_eq_decide.2 (w4_inj hn hk)
theorem run_neq_struct' (t : TypeId) (xs ys : Array Value) (b : Bool) (h : (Op.equalIn 10000 t (.agg xs) (.agg ys)).run Try.prog w = .ok b w) : (binOp .neq t (.agg xs) (.agg ys)).run Try.prog w = .ok (.bool !b) w := by
  have h' : (Op.equalIn Op.maxDepth t (.agg xs) (.agg ys)).run Try.prog w = .ok b w := h
  simp only [binOp, Op.equal, Sem.run_bind, h', Result.andThen_ok, Sem.run_pure]
theorem W.exec_neq {ρ : Operand → Value} (x y : Operand) (T : TypeId) (ho : o.op = .binOp .neq 24 x y T) (n k : Nat) (b : Bool) (hn : n < M) (hk : k < M) (hb : decide (n ≠ k) = b) (hx : ρ x = wv n) (hy : ρ y = wv k) : (execOp ρ o).run Try.prog w = .ok (.value (.bool b)) w := by
  have h := run_neq_struct' (w := w) 24 _ _ _ (run_equal_c64 Try.aw Try.u64 w (w4 n) (w4 k) (w4_length n) (w4_length k))
  unfold execOp
  have e : (!decide (w4 n = w4 k)) = b := by rw [← hb]; simp [w4_inj hn hk]
  rw [e] at h
  simp only [ho, hx, hy, wv, Sem.run_bind, Sem.run_pure, Result.andThen_ok, run_eqGuard_agg w _ 24 x y _ _ Try.eqw, h]
theorem W.eql (hgd : o.guard = none) (x y : Operand) (T : TypeId) (ho : o.op = .binOp .eql 24 x y T) (n k : Nat) (b : Bool) (hn : n < M) (hk : k < M) (hb : decide (n = k) = b) (hx : a.eval x = wv n) (hy : a.eval y = wv k)
    (h : wpList Try.prog ops Q rest (a.put o.dst (.bool b)) w) : wpList Try.prog ops Q (o :: rest) a w := wpList_val hgd _ (W.exec_eql x y T ho n k b hn hk hb hx hy) h
end
/-! A statement that draws, and turns numbers: what is read and written. -/
section
variable {w0 w w' : World} {L : List Blk} {o : Oper} {ρ : Operand → Value}
theorem W.xload (m : Mem w0 w L) (hC : Gr w w') (x : Operand) (ho : o.op = .load 24 x) (i : Nat) {g n : Nat} (hi : Blk.at L i ⟨g, 24, c64 (w4 n)⟩) (hx : ρ x = .pointer (some ⟨g, 0, none⟩)) : (execOp ρ o).run Try.prog w' = .ok (.value (wv n)) w' :=
  exec_load_arr Try.aw x ho g _ (wl n) hx ((m.get i hi).gr hC)
theorem W.xget (m : Mem w0 w L) (hC : Gr w w') (x : Operand) (ho : o.op = .load 22 x) (i j : Nat) {g : Nat} {l : List Nat} (v : Nat) (hi : Blk.at L i ⟨g, 24, c64 l⟩) (hj : j < l.length) (hv : gw l j = v) (hx : ρ x = .pointer (some ⟨g, j, none⟩)) : (execOp ρ o).run Try.prog w' = .ok (.value (.int .u64 (v : Int))) w' :=
  exec_get Try.u64 x ho g j _ _ ((m.get i hi).gr hC) (by rw [c64_gw hj, hv]) hx
theorem W.sload {T : TypeId} {ps : Nat → Option (List Value)} (m : Mem w0 w L) (hC : Vw T (VM L ps) w w') (x : Operand) (ho : o.op = .load 24 x) (i : Nat) {g n : Nat} (hi : Blk.at L i ⟨g, 24, c64 (w4 n)⟩) (hp : ps i = none) (hx : ρ x = .pointer (some ⟨g, 0, none⟩)) : (execOp ρ o).run Try.prog w' = .ok (.value (wv n)) w' :=
  exec_load_arr Try.aw x ho g _ (wl n) hx (m.still hC i hi hp)
theorem W.sget {T : TypeId} {ps : Nat → Option (List Value)} (m : Mem w0 w L) (hC : Vw T (VM L ps) w w') (x : Operand) (ho : o.op = .load 22 x) (i j : Nat) {g : Nat} {l : List Nat} (v : Nat) (hi : Blk.at L i ⟨g, 24, c64 l⟩) (hp : ps i = none) (hj : j < l.length) (hv : gw l j = v) (hx : ρ x = .pointer (some ⟨g, j, none⟩)) : (execOp ρ o).run Try.prog w' = .ok (.value (.int .u64 (v : Int))) w' :=
  exec_get Try.u64 x ho g j _ _ (m.still hC i hi hp) (by rw [c64_gw hj, hv]) hx
theorem W.xidx (x y : Operand) (ho : o.op = .indexAddr 24 x y) (g i : Nat) (k : IntKind) (u : Int) (hu : u = (i : Int)) (hi : i < 4) (hx : ρ x = .pointer (some ⟨g, 0, none⟩)) (hy : ρ y = .int k u) : (execOp ρ o).run Try.prog w = .ok (.value (.pointer (some ⟨g, i, none⟩))) w :=
  exec_indexAt_arr Try.aw x y ho g i k u hu hi hx hy
theorem W.xstore {ps : Nat → Option (List Value)} (m : Mem w0 w L) (hC : Vw 24 (VM L ps) w w') (x y : Operand) (ho : o.op = .store 24 x y) (i : Nat) {g : Nat} {l : List Nat} (n : Nat) (hi : Blk.at L i ⟨g, 24, c64 l⟩) (hl : l.length = 4) (hp : ps i = some (c64 (w4 n))) (hx : ρ x = .pointer (some ⟨g, 0, none⟩)) (hy : ρ y = wv n) :
    ∃ w2, (execOp ρ o).run Try.prog w' = .ok .skip w2 ∧ Vw 24 (VM L ps) w' w2 ∧ Arr 24 w2 g (c64 (w4 n)) :=
  store_arrV Try.aw ⟨i, _, hi, hp⟩ (m.was hC i hi hp) (by rw [c64_length]; exact hl) (wl n) (c64_one _) x y ho hx hy
theorem W.xset {ps : Nat → Option (List Value)} (m : Mem w0 w L) (hC : Vw 24 (VM L ps) w w') (x y : Operand) (ho : o.op = .store 22 x y) (i j : Nat) {g : Nat} {l : List Nat} (v : Nat) (l' : List Nat) (hl' : l.set j v = l') (hi : Blk.at L i ⟨g, 24, c64 l⟩) (hj : j < l.length) (hp : ps i = some (c64 l')) (hx : ρ x = .pointer (some ⟨g, j, none⟩)) (hy : ρ y = .int .u64 (v : Int)) :
    ∃ w2, (execOp ρ o).run Try.prog w' = .ok .skip w2 ∧ Vw 24 (VM L ps) w' w2 ∧ Arr 24 w2 g (c64 l') :=
  store_cellV ⟨i, _, hi, hp⟩ (m.was hC i hi hp) (.int .u64 (v : Int)) (by rw [c64_set, hl']) (by rw [c64_length]; exact hj) rfl _ x y ho Try.one64 hx hy
/-- A new block, made and written. -/
theorem W.newload {n' : List Value} (m : Mem w0 w L) (hC : Vw 24 (VN w.heap.size (c64 (w4 0)) n') w w') (x : Operand) (ho : o.op = .load 24 x) (i : Nat) {g n : Nat} (hi : Blk.at L i ⟨g, 24, c64 (w4 n)⟩) (hx : ρ x = .pointer (some ⟨g, 0, none⟩)) : (execOp ρ o).run Try.prog w' = .ok (.value (wv n)) w' :=
  exec_load_arr Try.aw x ho g _ (wl n) hx (m.oldN hC i hi)
theorem W.newget {n' : List Value} (m : Mem w0 w L) (hC : Vw 24 (VN w.heap.size (c64 (w4 0)) n') w w') (x : Operand) (ho : o.op = .load 22 x) (i j : Nat) {g n : Nat} (v : Nat) (hi : Blk.at L i ⟨g, 24, c64 (w4 n)⟩) (hj : j < 4) (hv : gw (w4 n) j = v) (hx : ρ x = .pointer (some ⟨g, j, none⟩)) : (execOp ρ o).run Try.prog w' = .ok (.value (.int .u64 (v : Int))) w' :=
  exec_get Try.u64 x ho g j _ _ (m.oldN hC i hi) (wv_cellv n j v hj hv) hx
theorem W.newalloc {n' : List Value} (hC : Vw 24 (VN w.heap.size (c64 (w4 0)) n') w w') (ho : o.op = .alloc 24) :
    ∃ v w2, (execOp ρ o).run Try.prog w' = .ok (.value v) w2 ∧ Vw 24 (VN w.heap.size (c64 (w4 0)) n') w' w2 ∧ NewB 24 w.heap.size (c64 (w4 0)) n' v w2 := by
  have := new_arr Try.aw (B := w.heap.size) (n := n') (w := w') hC.size (ρ := ρ) (op := o) ho
  rw [zeros4] at this
  exact this
theorem W.newstore {n : Nat} (x y : Operand) (ho : o.op = .store 24 x y) (g : Nat) (hB : w.heap.size ≤ g) (hN : NewB 24 w.heap.size (c64 (w4 0)) (c64 (w4 n)) (.pointer (some ⟨g, 0, none⟩)) w') (hx : ρ x = .pointer (some ⟨g, 0, none⟩)) (hy : ρ y = wv n) :
    ∃ w2, (execOp ρ o).run Try.prog w' = .ok .skip w2 ∧ Vw 24 (VN w.heap.size (c64 (w4 0)) (c64 (w4 n))) w' w2 ∧ Arr 24 w2 g (c64 (w4 n)) := by
  obtain ⟨g', e, _, hr⟩ := hN
  simp only [Value.pointer.injEq, Option.some.injEq, Addr.mk.injEq, and_true] at e
  subst e
  exact store_arrV Try.aw ⟨hB, rfl, rfl⟩ hr (wl 0) (wl n) (c64_one _) x y ho hx hy
end
theorem Mem.oldM {w0 w w' : World} {L : List Blk} {T : TypeId} {o n : List Value} (m : Mem w0 w L) (hw : Vw T (VN w.heap.size o n) w w') : Mem w0 w' L :=
  m.gr (hw.below (fun _ _ _ hv => hv.1) (Nat.le_refl _))
end Go.Proofs.Ytpfoeeiacfadfaa
