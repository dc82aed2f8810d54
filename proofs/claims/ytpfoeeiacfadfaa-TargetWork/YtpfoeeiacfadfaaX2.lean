/-
  Plain facts on single operations over whole numbers of any kind, each told as the value that it yields; on calls, choices, results.
-/
import Derived.Test.YtpfoeeiacfadfaaX1
import Derived.Test.YtpfoeeiacfadfaaU64
import Derived.Lib.ConvBytes
namespace Go.Proofs.Ytpfoeeiacfadfaa
open Go.RowKit

def lim : IntKind → Nat
  | .i8 => 128 | .u8 => 256 | .i16 => 32768 | .u16 => 65536 | .i32 => 2147483648 | .u32 => 4294967296 | .i64 => 9223372036854775808 | .u64 => 18446744073709551616
theorem wrapN (k : IntKind) (Z : Nat) (h : Z < lim k) : k.wrap (Z : Int) = (Z : Int) := by
  cases k <;> simp only [lim] at h <;> simp [IntKind.wrap, IntKind.bits, IntKind.signed] <;> omega

section
variable {P : Program} {ρ : Operand → Value} {o : Oper} {w w0 : World} {L : List Res}
section
variable (x y : Operand) (T U : TypeId)
theorem x_add (ho : o.op = .binOp .add T x y U) (X Y Z : Nat) (k : IntKind) (h : X + Y = Z ∧ Z < lim k) (hx : ρ x = .int k (X : Int)) (hy : ρ y = .int k (Y : Int)) : (execOp ρ o).run P w = .ok (.value (.int k (Z : Int))) w := by
  obtain ⟨rfl, h⟩ := h
  have e : (X : Int) + (Y : Int) = ((X + Y : Nat) : Int) := by omega
  unfold execOp
  simp only [ho, hx, hy, Sem.run_bind, run_eqGuard_no .add (by decide), Result.andThen_ok, binOp, Op.intArith, ne_eq, not_true_eq_false, if_false, Sem.run_pure]
  rw [e, wrapN k _ h]
theorem x_sub (ho : o.op = .binOp .sub T x y U) (X Y Z : Nat) (k : IntKind) (h : Z + Y = X ∧ Z < lim k) (hx : ρ x = .int k (X : Int)) (hy : ρ y = .int k (Y : Int)) : (execOp ρ o).run P w = .ok (.value (.int k (Z : Int))) w := by
  have e : (X : Int) - (Y : Int) = ((Z : Nat) : Int) := by omega
  unfold execOp
  simp only [ho, hx, hy, Sem.run_bind, run_eqGuard_no .sub (by decide), Result.andThen_ok, binOp, Op.intArith, ne_eq, not_true_eq_false, if_false, Sem.run_pure]
  rw [e, wrapN k _ h.2]
theorem x_mul (ho : o.op = .binOp .mul T x y U) (X Y Z : Nat) (k : IntKind) (h : X * Y = Z ∧ Z < lim k) (hx : ρ x = .int k (X : Int)) (hy : ρ y = .int k (Y : Int)) : (execOp ρ o).run P w = .ok (.value (.int k (Z : Int))) w := by
  obtain ⟨rfl, h⟩ := h
  have e : (X : Int) * (Y : Int) = ((X * Y : Nat) : Int) := by simp
  unfold execOp
  simp only [ho, hx, hy, Sem.run_bind, run_eqGuard_no .mul (by decide), Result.andThen_ok, binOp, Op.intArith, ne_eq, not_true_eq_false, if_false, Sem.run_pure]
  rw [e, wrapN k _ h]
theorem x_quo (ho : o.op = .binOp .quo T x y U) (X Y Z : Nat) (k : IntKind) (h : X / Y = Z ∧ 0 < Y ∧ X < lim k) (hx : ρ x = .int k (X : Int)) (hy : ρ y = .int k (Y : Int)) : (execOp ρ o).run P w = .ok (.value (.int k (Z : Int))) w := by
  obtain ⟨rfl, h1, h2⟩ := h
  have h0 : ¬ ((Y : Int) = 0) := by omega
  have e : (X : Int).tdiv Y = ((X / Y : Nat) : Int) := by rw [Int.tdiv_eq_ediv_of_nonneg (by omega)]; rfl
  have hl : X / Y ≤ X := Nat.div_le_self _ _
  unfold execOp
  simp only [ho, hx, hy, Sem.run_bind, run_eqGuard_no .quo (by decide), Result.andThen_ok, binOp, Op.intDiv, ne_eq, not_true_eq_false, if_false, h0, Sem.run_pure, e]
  rw [wrapN k _ (by omega)]
theorem x_rem (ho : o.op = .binOp .rem T x y U) (X Y Z : Nat) (k : IntKind) (h : X % Y = Z ∧ 0 < Y) (hx : ρ x = .int k (X : Int)) (hy : ρ y = .int k (Y : Int)) : (execOp ρ o).run P w = .ok (.value (.int k (Z : Int))) w := by
  obtain ⟨rfl, h1⟩ := h
  have h0 : ¬ ((Y : Int) = 0) := by omega
  have e : (X : Int).tmod Y = ((X % Y : Nat) : Int) := by rw [Int.tmod_eq_emod_of_nonneg (by omega)]; rfl
  unfold execOp
  simp only [ho, hx, hy, Sem.run_bind, run_eqGuard_no .rem (by decide), Result.andThen_ok, binOp, Op.intDiv, ne_eq, not_true_eq_false, if_false, h0, Sem.run_pure, e]
theorem x_shr (ho : o.op = .binOp .shr T x y U) (X c Z : Nat) (k j : IntKind) (h : X / 2 ^ c = Z ∧ c ≤ k.bits) (hx : ρ x = .int k (X : Int)) (hy : ρ y = .int j (c : Int)) : (execOp ρ o).run P w = .ok (.value (.int k (Z : Int))) w := by
  obtain ⟨rfl, hc⟩ := h
  unfold execOp
  simp only [ho, hx, hy, Sem.run_bind, run_eqGuard_no .shr (by decide), Result.andThen_ok, binOp, Op.shift]
  have h1 : ¬ ((c : Int) < 0) := by omega
  have h2 : min (c : Int).toNat k.bits = c := by omega
  rw [if_neg h1, h2]
  simp only [Sem.run_pure, Result.andThen_ok]
  congr 3
  have e : ((2 : Int) ^ c) = ((2 ^ c : Nat) : Int) := by simp [Int.natCast_pow]
  rw [e, Int.fdiv_eq_ediv_of_nonneg _ (Int.natCast_nonneg _)]
  rfl
theorem x_lss_t (ho : o.op = .binOp .lss T x y U) (X Y : Nat) (k : IntKind) (h : X < Y) (hx : ρ x = .int k (X : Int)) (hy : ρ y = .int k (Y : Int)) : (execOp ρ o).run P w = .ok (.value (.bool true)) w := by
  have e : ((X : Int) < (Y : Int)) := by omega
  unfold execOp
  simp only [ho, hx, hy, Sem.run_bind, run_eqGuard_no .lss (by decide), Result.andThen_ok, binOp, Op.intCmp, ne_eq, not_true_eq_false, if_false, Sem.run_pure, e, decide_true]
theorem x_lss_f (ho : o.op = .binOp .lss T x y U) (X Y : Nat) (k : IntKind) (h : ¬ X < Y) (hx : ρ x = .int k (X : Int)) (hy : ρ y = .int k (Y : Int)) : (execOp ρ o).run P w = .ok (.value (.bool false)) w := by
  have e : ¬ ((X : Int) < (Y : Int)) := by omega
  unfold execOp
  simp only [ho, hx, hy, Sem.run_bind, run_eqGuard_no .lss (by decide), Result.andThen_ok, binOp, Op.intCmp, ne_eq, not_true_eq_false, if_false, Sem.run_pure, e, decide_false]
theorem x_leq_t (ho : o.op = .binOp .leq T x y U) (X Y : Nat) (k : IntKind) (h : X ≤ Y) (hx : ρ x = .int k (X : Int)) (hy : ρ y = .int k (Y : Int)) : (execOp ρ o).run P w = .ok (.value (.bool true)) w := by
  have e : ((X : Int) ≤ (Y : Int)) := by omega
  unfold execOp
  simp only [ho, hx, hy, Sem.run_bind, run_eqGuard_no .leq (by decide), Result.andThen_ok, binOp, Op.intCmp, ne_eq, not_true_eq_false, if_false, Sem.run_pure, e, decide_true]
theorem x_leq_f (ho : o.op = .binOp .leq T x y U) (X Y : Nat) (k : IntKind) (h : ¬ X ≤ Y) (hx : ρ x = .int k (X : Int)) (hy : ρ y = .int k (Y : Int)) : (execOp ρ o).run P w = .ok (.value (.bool false)) w := by
  have e : ¬ ((X : Int) ≤ (Y : Int)) := by omega
  unfold execOp
  simp only [ho, hx, hy, Sem.run_bind, run_eqGuard_no .leq (by decide), Result.andThen_ok, binOp, Op.intCmp, ne_eq, not_true_eq_false, if_false, Sem.run_pure, e, decide_false]
theorem x_gtr_t (ho : o.op = .binOp .gtr T x y U) (X Y : Nat) (k : IntKind) (h : X > Y) (hx : ρ x = .int k (X : Int)) (hy : ρ y = .int k (Y : Int)) : (execOp ρ o).run P w = .ok (.value (.bool true)) w := by
  have e : ((X : Int) > (Y : Int)) := by omega
  unfold execOp
  simp only [ho, hx, hy, Sem.run_bind, run_eqGuard_no .gtr (by decide), Result.andThen_ok, binOp, Op.intCmp, ne_eq, not_true_eq_false, if_false, Sem.run_pure, e, decide_true]
theorem x_gtr_f (ho : o.op = .binOp .gtr T x y U) (X Y : Nat) (k : IntKind) (h : ¬ X > Y) (hx : ρ x = .int k (X : Int)) (hy : ρ y = .int k (Y : Int)) : (execOp ρ o).run P w = .ok (.value (.bool false)) w := by
  have e : ¬ ((X : Int) > (Y : Int)) := by omega
  unfold execOp
  simp only [ho, hx, hy, Sem.run_bind, run_eqGuard_no .gtr (by decide), Result.andThen_ok, binOp, Op.intCmp, ne_eq, not_true_eq_false, if_false, Sem.run_pure, e, decide_false]
theorem x_geq_t (ho : o.op = .binOp .geq T x y U) (X Y : Nat) (k : IntKind) (h : X ≥ Y) (hx : ρ x = .int k (X : Int)) (hy : ρ y = .int k (Y : Int)) : (execOp ρ o).run P w = .ok (.value (.bool true)) w := by
  have e : ((X : Int) ≥ (Y : Int)) := by omega
  unfold execOp
  simp only [ho, hx, hy, Sem.run_bind, run_eqGuard_no .geq (by decide), Result.andThen_ok, binOp, Op.intCmp, ne_eq, not_true_eq_false, if_false, Sem.run_pure, e, decide_true]
theorem x_geq_f (ho : o.op = .binOp .geq T x y U) (X Y : Nat) (k : IntKind) (h : ¬ X ≥ Y) (hx : ρ x = .int k (X : Int)) (hy : ρ y = .int k (Y : Int)) : (execOp ρ o).run P w = .ok (.value (.bool false)) w := by
  have e : ¬ ((X : Int) ≥ (Y : Int)) := by omega
  unfold execOp
  simp only [ho, hx, hy, Sem.run_bind, run_eqGuard_no .geq (by decide), Result.andThen_ok, binOp, Op.intCmp, ne_eq, not_true_eq_false, if_false, Sem.run_pure, e, decide_false]
theorem x_eqi (ho : o.op = .binOp .eql T x y U) (X Y : Int) (k : IntKind) (hx : ρ x = .int k X) (hy : ρ y = .int k Y) : (execOp ρ o).run P w = .ok (.value (.bool (X == Y))) w := by
  unfold execOp
  simp [go_sem, ho, hx, hy]
theorem x_nei (ho : o.op = .binOp .neq T x y U) (X Y : Int) (k : IntKind) (hx : ρ x = .int k X) (hy : ρ y = .int k Y) : (execOp ρ o).run P w = .ok (.value (.bool (X != Y))) w := by
  unfold execOp
  simp [go_sem, ho, hx, hy]
theorem x_eql_t (ho : o.op = .binOp .eql T x y U) (X Y : Nat) (k : IntKind) (h : X = Y) (hx : ρ x = .int k (X : Int)) (hy : ρ y = .int k (Y : Int)) : (execOp ρ o).run P w = .ok (.value (.bool true)) w := by
  rw [x_eqi x y T U ho _ _ k hx hy, h, beq_self_eq_true]
theorem x_eql_f (ho : o.op = .binOp .eql T x y U) (X Y : Nat) (k : IntKind) (h : ¬ X = Y) (hx : ρ x = .int k (X : Int)) (hy : ρ y = .int k (Y : Int)) : (execOp ρ o).run P w = .ok (.value (.bool false)) w := by
  rw [x_eqi x y T U ho _ _ k hx hy, show ((X : Int) == (Y : Int)) = false from by simp; omega]
theorem x_neq_t (ho : o.op = .binOp .neq T x y U) (X Y : Nat) (k : IntKind) (h : ¬ X = Y) (hx : ρ x = .int k (X : Int)) (hy : ρ y = .int k (Y : Int)) : (execOp ρ o).run P w = .ok (.value (.bool true)) w := by
  rw [x_nei x y T U ho _ _ k hx hy, show ((X : Int) != (Y : Int)) = true from by simp; omega]
theorem x_neq_f (ho : o.op = .binOp .neq T x y U) (X Y : Nat) (k : IntKind) (h : X = Y) (hx : ρ x = .int k (X : Int)) (hy : ρ y = .int k (Y : Int)) : (execOp ρ o).run P w = .ok (.value (.bool false)) w := by
  rw [x_nei x y T U ho _ _ k hx hy, h, bne_self_eq_false]
end
theorem x_pick (c x y : Operand) (ho : o.op = .pick c x y) (b : Bool) (v : Value) (hc : ρ c = .bool b) (hv : (if b then ρ x else ρ y) = v) : (execOp ρ o).run P w = .ok (.value v) w := by
  subst hv
  unfold execOp
  simp only [ho, hc, asBool, Sem.run_bind, Sem.run_pure, Result.andThen_ok]
/-- A function with a body of its own. -/
def isGo (P : Program) (f : FuncId) : Bool := match P.funcs[f]? with | some fn => !(fn.name == "runtime.NumGoroutine") && !fn.body.isNone | none => false
theorem run_go {f : FuncId} (h : isGo P f = true) (args : Array Value) : (callFunc f args).run P w = .ok (.enter f args) w := by
  unfold isGo at h
  cases hf : P.funcs[f]? with
  | none => rw [hf] at h; cases h
  | some fn =>
    rw [hf] at h
    simp only [Bool.and_eq_true, Bool.not_eq_true'] at h
    simp only [callFunc, Sem.run_bind, run_program, Result.andThen_ok, hf, h.1, h.2, Bool.false_eq_true, if_false, Sem.run_pure]
/-! A call of a named function. -/
theorem x_cl0 {f : FuncId} {T : Array TypeId} (ho : o.op = .call { callee := .value (.func f), args := #[], argTypes := T }) (hg : isGo P f = true) (hf : ρ (.func f) = .func (.func f) #[] #[] := by rfl) : (execOp ρ o).run P w = .ok (.enter f #[]) w := by
  unfold execOp
  simp [ho, resolve, invoke, Deferred.ofValue, run_go hg, hf]
theorem x_cl1 {x0 : Operand} {f : FuncId} {T : Array TypeId} (ho : o.op = .call { callee := .value (.func f), args := #[x0], argTypes := T }) {v0 : Value} (h0 : ρ x0 = v0) (hg : isGo P f = true) (hf : ρ (.func f) = .func (.func f) #[] #[] := by rfl) : (execOp ρ o).run P w = .ok (.enter f #[v0]) w := by
  unfold execOp
  simp [ho, resolve, invoke, Deferred.ofValue, run_go hg, hf, h0]
theorem x_cl2 {x0 x1 : Operand} {f : FuncId} {T : Array TypeId} (ho : o.op = .call { callee := .value (.func f), args := #[x0, x1], argTypes := T }) {v0 v1 : Value} (h0 : ρ x0 = v0) (h1 : ρ x1 = v1) (hg : isGo P f = true) (hf : ρ (.func f) = .func (.func f) #[] #[] := by rfl) : (execOp ρ o).run P w = .ok (.enter f #[v0, v1]) w := by
  unfold execOp
  simp [ho, resolve, invoke, Deferred.ofValue, run_go hg, hf, h0, h1]
theorem x_cl3 {x0 x1 x2 : Operand} {f : FuncId} {T : Array TypeId} (ho : o.op = .call { callee := .value (.func f), args := #[x0, x1, x2], argTypes := T }) {v0 v1 v2 : Value} (h0 : ρ x0 = v0) (h1 : ρ x1 = v1) (h2 : ρ x2 = v2) (hg : isGo P f = true) (hf : ρ (.func f) = .func (.func f) #[] #[] := by rfl) : (execOp ρ o).run P w = .ok (.enter f #[v0, v1, v2]) w := by
  unfold execOp
  simp [ho, resolve, invoke, Deferred.ofValue, run_go hg, hf, h0, h1, h2]
theorem x_cl4 {x0 x1 x2 x3 : Operand} {f : FuncId} {T : Array TypeId} (ho : o.op = .call { callee := .value (.func f), args := #[x0, x1, x2, x3], argTypes := T }) {v0 v1 v2 v3 : Value} (h0 : ρ x0 = v0) (h1 : ρ x1 = v1) (h2 : ρ x2 = v2) (h3 : ρ x3 = v3) (hg : isGo P f = true) (hf : ρ (.func f) = .func (.func f) #[] #[] := by rfl) : (execOp ρ o).run P w = .ok (.enter f #[v0, v1, v2, v3]) w := by
  unfold execOp
  simp [ho, resolve, invoke, Deferred.ofValue, run_go hg, hf, h0, h1, h2, h3]
theorem x_cl5 {x0 x1 x2 x3 x4 : Operand} {f : FuncId} {T : Array TypeId} (ho : o.op = .call { callee := .value (.func f), args := #[x0, x1, x2, x3, x4], argTypes := T }) {v0 v1 v2 v3 v4 : Value} (h0 : ρ x0 = v0) (h1 : ρ x1 = v1) (h2 : ρ x2 = v2) (h3 : ρ x3 = v3) (h4 : ρ x4 = v4) (hg : isGo P f = true) (hf : ρ (.func f) = .func (.func f) #[] #[] := by rfl) : (execOp ρ o).run P w = .ok (.enter f #[v0, v1, v2, v3, v4]) w := by
  unfold execOp
  simp [ho, resolve, invoke, Deferred.ofValue, run_go hg, hf, h0, h1, h2, h3, h4]
theorem x_cl6 {x0 x1 x2 x3 x4 x5 : Operand} {f : FuncId} {T : Array TypeId} (ho : o.op = .call { callee := .value (.func f), args := #[x0, x1, x2, x3, x4, x5], argTypes := T }) {v0 v1 v2 v3 v4 v5 : Value} (h0 : ρ x0 = v0) (h1 : ρ x1 = v1) (h2 : ρ x2 = v2) (h3 : ρ x3 = v3) (h4 : ρ x4 = v4) (h5 : ρ x5 = v5) (hg : isGo P f = true) (hf : ρ (.func f) = .func (.func f) #[] #[] := by rfl) : (execOp ρ o).run P w = .ok (.enter f #[v0, v1, v2, v3, v4, v5]) w := by
  unfold execOp
  simp [ho, resolve, invoke, Deferred.ofValue, run_go hg, hf, h0, h1, h2, h3, h4, h5]
theorem x_sla {A E : TypeId} {N : Nat} {z : Value} (t : AT P A E N z) (x : Operand) (ho : o.op = .slice A x none none none) (g : Nat) (hx : ρ x = .pointer (some ⟨g, 0, none⟩)) :
    (execOp ρ o).run P w = .ok (.value (.slice (some ⟨g, 0, none⟩) N N)) w := by
  unfold execOp
  simp only [ho, hx, Sem.run_bind, Sem.run_pure, Result.andThen_ok, Option.map_none, run_slice_arr t w g]
theorem x_ixa {A E : TypeId} {N : Nat} {z : Value} (t : AT P A E N z) (x y : Operand) (ho : o.op = .index A x y) (cs : List Value) (i : Nat) (k : IntKind) (v : Value) (hc : cs.length = N) (hv : cs[i]? = some v) (u : Int) (hu : u = (i : Int)) (hx : ρ x = .agg cs.toArray) (hy : ρ y = .int k u) :
    (execOp ρ o).run P w = .ok (.value v) w := by
  subst hu
  obtain ⟨hi, rfl⟩ := List.getElem?_eq_some_iff.1 hv
  unfold execOp
  simp only [ho, hx, hy, Sem.run_bind, Sem.run_pure, Result.andThen_ok, run_index_arr t w cs i k hc (by omega)]
theorem x_bld0 {A E : TypeId} {N : Nat} {z : Value} (t : AT P A E N z) (ho : o.op = .build A #[]) {cs : List Value} (hz : List.replicate N z = cs) : (execOp ρ o).run P w = .ok (.value (.agg cs.toArray)) w := by
  subst hz
  unfold execOp
  simp only [ho, List.map_toArray, List.map_nil, Sem.run_bind, Sem.run_pure, Result.andThen_ok, run_build_arr t w]
theorem at_size {A E : TypeId} {N : Nat} {z : Value} (t : AT P A E N z) {us : List Value} (h : us.length = N) : (P.info? A).map (·.size) = some us.length := by
  obtain ⟨i, hi, _, hs⟩ := t.parts
  rw [hi, h, ← hs]; rfl
end
theorem sta_all {cs us : List Value} {N : Nat} (h1 : cs.length = N) (h2 : us.length = N) : cs.take 0 ++ us ++ cs.drop (0 + us.length) = us := by
  rw [h2, ← h1]; simp
theorem pick_ap {L : List Res} (hp : L.Pairwise Res.ap) {i j : Nat} {a b : Res} (hij : i ≠ j) (ha : L[i]? = some a) (hb : L[j]? = some b) : a.ap b := by
  obtain ⟨ha', ea⟩ := List.getElem?_eq_some_iff.1 ha
  obtain ⟨hb', eb⟩ := List.getElem?_eq_some_iff.1 hb
  rw [← ea, ← eb]
  rcases Nat.lt_or_ge i j with h | h
  · exact List.pairwise_iff_getElem.1 hp i j ha' hb' h
  · exact Res.ap_symm (List.pairwise_iff_getElem.1 hp j i hb' ha' (by omega))
def picks (L : List Res) : List Nat → List Res → Prop
  | [], [] => True
  | i :: is, r :: rs => L[i]? = some r ∧ picks L is rs
  | _, _ => False
theorem picks_mem {L : List Res} : ∀ {is : List Nat} {rs : List Res}, picks L is rs → ∀ r ∈ rs, ∃ i ∈ is, L[i]? = some r
  | [], [], _, _, h => absurd h List.not_mem_nil
  | i :: is, r :: rs, h, x, hx => by
    rcases List.mem_cons.1 hx with rfl | hx
    · exact ⟨i, List.mem_cons_self, h.1⟩
    · obtain ⟨j, hj, e⟩ := picks_mem h.2 x hx; exact ⟨j, List.mem_cons_of_mem _ hj, e⟩
  | [], _ :: _, h, _, _ => h.elim
  | _ :: _, [], h, _, _ => h.elim
/-- Some of these things, in any order. -/
theorem Mo.pick {w0 w : World} {L : List Res} (m : Mo w0 w L) (is : List Nat) {rs : List Res} (hn : is.Nodup) (h : picks L is rs) : Mo w0 w rs := by
  refine ⟨m.below, fun r hr => ?_, ?_⟩
  · obtain ⟨i, _, e⟩ := picks_mem h r hr
    exact m.get e
  · induction is generalizing rs with
    | nil => cases rs with
      | nil => exact List.Pairwise.nil
      | cons r rs => exact h.elim
    | cons i is ih => cases rs with
      | nil => exact List.Pairwise.nil
      | cons r rs =>
        rw [List.nodup_cons] at hn
        refine List.pairwise_cons.2 ⟨fun x hx => ?_, ih hn.2 h.2⟩
        obtain ⟨j, hj, e⟩ := picks_mem h.2 x hx
        exact pick_ap m.ap (fun e2 => hn.1 (by rw [e2]; exact hj)) h.1 e
theorem Rc.sl8 {B : Nat} {w : World} {v : Value} {n : Nat} {l : List UInt8} (h : Rc B w v n (cellsOf l)) (lo hi : Nat) (h1 : lo ≤ hi) (h2 : hi ≤ n) : Rc B w (sV 1 v lo hi) (hi - lo) (cellsOf ((l.take hi).drop lo)) := by
  have h := h.sl 1 lo hi h1 h2
  simpa [cellsOf, List.map_take, List.map_drop] using h
section
variable {P : Program} {ρ : Operand → Value} {o : Oper} {w w0 : World} {L : List Res} {T S E : TypeId}
/-- []byte(s) -/
theorem x_cs (hS : P.underlying S = some .string) (hT : P.underlying T = some (.slice E)) (hE : P.underlying E = some (.int .u8)) (x : Operand) (ho : o.op = .convert S T x) (m : Mo w0 w L) (s : ByteArray) (hx : ρ x = .string s) :
    ∃ v w', (execOp ρ o).run P w = .ok (.value v) w' ∧ Mo w0 w' (.rdo v s.size (cellsOf s.data.toList) :: L) := by
  have e := Go.Lib.run_convert_string_bytes w S T E s hS hT hE
  have hg : Gr w (Go.Lib.bytesWorld w E s) := ⟨rfl, rfl, rfl, by rw [Go.Lib.bytesWorld_size]; omega, fun k hk => Go.Lib.bytesWorld_at_old w E s k hk⟩
  refine ⟨_, _, ?_, m.new (r := .rdo (.slice (some ⟨w.heap.size, 0, none⟩) s.size (grownCap w s.size 0 E)) s.size (cellsOf s.data.toList)) hg ⟨fun g hg => ?_, ?_⟩⟩
  · unfold execOp
    simp only [ho, hx, Sem.run_bind, Sem.run_pure]
    rw [e, Result.andThen_ok]
  · obtain rfl := Option.some.inj hg
    rw [Go.Lib.bytesWorld_size]
    exact ⟨Nat.le_refl _, Nat.lt_succ_self _⟩
  · refine ⟨_, _, rfl, grownCap_ge w s.size 0 E, (fun h => by cases h), fun a ha j u hu => ?_⟩
    obtain rfl := Option.some.inj ha
    obtain ⟨hj, rfl⟩ := cellsOf_get hu
    rw [Addr.add_lit, Nat.zero_add, Go.Lib.bytesWorld_cell w E s j (by simpa using hj), Go.Lib.bytesWorld_size]
    refine ⟨?_, Nat.lt_succ_self _⟩
    rw [List.getD_eq_getElem?_getD, List.getElem?_eq_getElem hj, Option.getD_some]
/-- string(b) -/
theorem x_cb {z b : Nat} {zv : Value} (t : ST P T E z b zv) (hE : P.underlying E = some (.int .u8)) (hS : P.underlying S = some .string) (x : Operand) (ho : o.op = .convert T S x) {B : Nat} {v : Value} {n : Nat} {l : List UInt8} (h : Rc B w v n (cellsOf l)) (hn : l.length = n) (hx : ρ x = v) :
    (execOp ρ o).run P w = .ok (.value (.string ⟨l.toArray⟩)) w := by
  have hr : Rd B w v l := h.rd hn.symm
  obtain ⟨ao, cap, rfl, h1, h2, h3⟩ := hr
  have e : (convert T S (.slice ao l.length cap)).run P w = .ok (.string ⟨l.toArray⟩) w := by
    rw [run_convert_bytes_string (P := P) w T S E ao l.length cap t.sl hE hS]
    have fold : ∀ (l : List UInt8) (s : ByteArray), (l.map (fun c => (c.toNat : Int))).foldl (fun r n => r.push (UInt8.ofNat n.toNat)) s = ⟨s.data ++ l.toArray⟩ := by
      intro l
      induction l with
      | nil => intro s; simp
      | cons c l ih => intro s; simp only [List.map_cons, List.foldl_cons]; rw [ih]; simp [ByteArray.push]
    cases ao with
    | none =>
      have hc := h2 rfl
      obtain rfl : l = [] := List.eq_nil_of_length_eq_zero (by omega)
      simp [Conv.bytesToString, Sem.run_pure]
      rfl
    | some a =>
      have hl : (loadCells a l.length).run P w = .ok ((l.map (fun c => (c.toNat : Int))).map (Value.int .u8)).toArray w := by
        have := run_loadCells_list (P := P) w a (cellsOf l) (fun j v hj => (h3 a rfl j v hj).1)
        rw [cellsOf_length] at this
        rw [this]
        simp [cellsOf]
      rw [run_bytesToString (P := P) w a l.length cap _ hl, fold]
      simp
  unfold execOp
  simp only [ho, hx, Sem.run_bind, Sem.run_pure, Result.andThen_ok, e]
/-- Two texts alike. -/
theorem x_eqs (x y : Operand) (U : TypeId) (ho : o.op = .binOp .eql S x y U) (s t : ByteArray) (hx : ρ x = .string s) (hy : ρ y = .string t) : (execOp ρ o).run P w = .ok (.value (.bool (s.toList == t.toList))) w := by
  unfold execOp
  simp [go_sem, ho, hx, hy]
theorem x_eqs_t (x y : Operand) (U : TypeId) (ho : o.op = .binOp .eql S x y U) (s : ByteArray) (hx : ρ x = .string s) (hy : ρ y = .string s) : (execOp ρ o).run P w = .ok (.value (.bool true)) w := by
  rw [x_eqs x y U ho s s hx hy, beq_self_eq_true]
/-- Two arrays of bytes alike. -/
theorem x_eqa {A : TypeId} {N : Nat} {z : Value} (t : AT P A E N z) (hu : P.underlying E = some (.int .u8)) (hm : P.eqGuardType P.depth A = false) (x y : Operand) (U : TypeId) (ho : o.op = .binOp .eql A x y U) (l m : List UInt8) (hl : (cellsOf l).length = N) (hml : (cellsOf m).length = N) (b : Bool) (hb : decide (l = m) = b)
    (hx : ρ x = .agg (cellsOf l).toArray) (hy : ρ y = .agg (cellsOf m).toArray) : (execOp ρ o).run P w = .ok (.value (.bool b)) w := by
  subst hb
  exact exec_eql_bytes t hu hm x y U ho l m (by rw [← hl, cellsOf_length]) (by rw [← hml, cellsOf_length]) hx hy
theorem x_nea {A : TypeId} {N : Nat} {z : Value} (t : AT P A E N z) (hu : P.underlying E = some (.int .u8)) (hm : P.eqGuardType P.depth A = false) (x y : Operand) (U : TypeId) (ho : o.op = .binOp .neq A x y U) (l m : List UInt8) (hl : (cellsOf l).length = N) (hml : (cellsOf m).length = N) (b : Bool) (hb : decide (l = m) = b)
    (hx : ρ x = .agg (cellsOf l).toArray) (hy : ρ y = .agg (cellsOf m).toArray) : (execOp ρ o).run P w = .ok (.value (.bool !b)) w := by
  subst hb
  have h := run_equal_bytes t hu w l m (by rw [← hl, cellsOf_length]) (by rw [← hml, cellsOf_length])
  unfold execOp
  simp only [ho, hx, hy, Sem.run_bind, Sem.run_pure, Result.andThen_ok, run_eqGuard_agg w _ A x y _ _ hm, run_neq_struct, h]
theorem x_not (x : Operand) (T : TypeId) (ho : o.op = .unOp .not T x) (b : Bool) (hx : ρ x = .bool b) : (execOp ρ o).run P w = .ok (.value (.bool !b)) w := by
  unfold execOp
  simp only [ho, hx, Sem.run_bind, Op.unary, Sem.run_pure, Result.andThen_ok]
theorem x_lens (hS : P.underlying S = some .string) (x : Operand) (ho : o.op = .call { callee := .builtin .len, args := #[x], argTypes := #[S] }) (s : ByteArray) (hx : ρ x = .string s) : (execOp ρ o).run P w = .ok (.value (.int .i64 (s.size : Int))) w := by
  unfold execOp
  simp only [ho, resolve, invoke, builtin, Sem.run_bind, Sem.run_pure, Result.andThen_ok, List.map_toArray, List.map_cons, List.map_nil, hx]
  simp [Builtin.len_, run_underlying hS, goInt]
theorem x_and2047 (x y : Operand) (U : TypeId) (ho : o.op = .binOp .and T x y U) (X : Int) (hx : ρ x = .int .i64 X) (hy : ρ y = .int .i64 2047) : (execOp ρ o).run P w = .ok (.value (.int .i64 (((X % 2048).toNat : Nat) : Int))) w := by
  unfold execOp
  simp only [ho, hx, hy, Sem.run_bind, run_eqGuard_no .and (by decide), Result.andThen_ok, binOp, Op.intBits, ne_eq, not_true_eq_false, if_false, Sem.run_pure]
  congr 3
  have e : (BitVec.ofInt IntKind.i64.bits X &&& BitVec.ofInt IntKind.i64.bits 2047).toNat = (X % 2048).toNat := by
    show (BitVec.ofInt 64 X &&& BitVec.ofInt 64 2047).toNat = _
    rw [BitVec.toNat_and, BitVec.toNat_ofInt]
    have e1 : (BitVec.ofInt 64 2047).toNat = 2 ^ 11 - 1 := by decide
    rw [e1, Nat.and_two_pow_sub_one_eq_mod]
    omega
  rw [e]
  exact wrapN .i64 _ (show (X % 2048).toNat < 9223372036854775808 by omega)
end
theorem sta_len {cs us : List Value} {N : Nat} (h1 : cs.length = N) (h2 : us.length = N) : 0 + us.length ≤ cs.length := by omega
section
variable {P : Program} {ρ : Operand → Value} {o : Oper} {w w0 : World} {L : List Res} {A T E : TypeId} {N : Nat} {zz : Value}
/-- p[lo:hi] of an array in a block -/
theorem x_slb (t : AT P A E N zz) (x : Operand) (lo hi : Option Operand) (ho : o.op = .slice A x lo hi none) (g l m : Nat) (h1 : l ≤ m) (h2 : m ≤ N) (h3 : l < N) (hx : ρ x = .pointer (some ⟨g, 0, none⟩))
    (hlo : match lo with | none => l = 0 | some y => ρ y = .int .i64 (l : Int)) (hhi : match hi with | none => m = N | some y => ρ y = .int .i64 (m : Int)) :
    (execOp ρ o).run P w = .ok (.value (.slice (some ⟨g, l, none⟩) (m - l) (N - l))) w := by
  obtain ⟨j, hj, hs⟩ := t.elem
  have b1 : ∀ e : BoundsCode, (Instr.sliceBound (.int .i64 (l : Int)) m e).run P w = .ok l w := fun e => by simp [Instr.sliceBound, asIntOf]; omega
  have b2 : ∀ e : BoundsCode, (Instr.sliceBound (.int .i64 (m : Int)) N e).run P w = .ok m w := fun e => by simp [Instr.sliceBound, asIntOf]; omega
  have b3 : ∀ e : BoundsCode, (Instr.sliceBound (.int .i64 (l : Int)) N e).run P w = .ok l w := fun e => by simp [Instr.sliceBound, asIntOf]; omega
  have ne : ¬ N = l := by omega
  unfold execOp
  cases lo with
  | none =>
    have hl : l = 0 := hlo
    subst hl
    cases hi with
    | none => have hm : m = N := hhi; subst hm; simp [ho, hx, Instr.sliceAt, run_underlying t.ar, Instr.sureAddr, Instr.sliceBounds, sizeOf, typeInfo, hj, Addr.add_lit]
    | some y => have hm : ρ y = .int .i64 (m : Int) := hhi; simp [ho, hx, hm, Instr.sliceAt, run_underlying t.ar, Instr.sureAddr, Instr.sliceBounds, b2, sizeOf, typeInfo, hj, Addr.add_lit]
  | some y =>
    have hl : ρ y = .int .i64 (l : Int) := hlo
    cases hi with
    | none => have hm : m = N := hhi; subst hm; simp [ho, hx, hl, Instr.sliceAt, run_underlying t.ar, Instr.sureAddr, Instr.sliceBounds, b3, sizeOf, typeInfo, hj, hs, Addr.add_lit, ne]
    | some y => have hm : ρ y = .int .i64 (m : Int) := hhi; simp [ho, hx, hl, hm, Instr.sliceAt, run_underlying t.ar, Instr.sureAddr, Instr.sliceBounds, b1, b2, sizeOf, typeInfo, hj, hs, Addr.add_lit, ne]
/-- copy(p[off:..], b), as long a slice, of one-cell elements. -/
theorem x_cpy {b : Nat} {zv : Value} (t : ST P T E 1 b zv) (d s : Operand) (ho : o.op = .call { callee := .builtin .copy, args := #[d, s], argTypes := #[T, T] }) (m : Mo w0 w L) (i : Nat) {g : Nat} {cs : List Value} (hi : L[i]? = some (.arr g A cs)) (off n : Nat) {c : Nat} (hd : ρ d = .slice (some ⟨g, off, none⟩) n c)
    {B : Nat} {u : Value} {ds : List Value} (hr : Rc B w u n ds) (hx : ρ s = u) (hl : ds.length = n) (h0 : 0 < n) (hf : off + n ≤ cs.length) (ns : List Value) (he : cs.take off ++ ds ++ cs.drop (off + n) = ns) (h1 : ∀ c ∈ ds, c.oneCell' = true) :
    ∃ v w', (execOp ρ o).run P w = .ok (.value v) w' ∧ v = .int .i64 (n : Int) ∧ Mo w0 w' (L.set i (.arr g A ns)) := by
  subst he
  obtain ⟨i0, hi0, hz0, hz1, hz2⟩ := t.parts
  obtain ⟨ao, cap, rfl, h2, h3, h4⟩ := hr
  have hg := m.get hi
  cases ao with
  | none => have := h3 rfl; omega
  | some a =>
    have hrun := run_copy_row (P := P) w T T o.type E g off n c a n cap cs.toArray A ds t.sl (by simp [hi0, hz1]) hg.2 (by rw [hl]; exact (Nat.min_self n).symm) (fun j v hv => (h4 a rfl j v hv).1) (by rw [hl]; simpa using hf) h1
    rw [hl] at hrun
    refine ⟨_, _, ?_, rfl, m.turn hi (w' := w.setRow g (cs.take off ++ ds ++ cs.drop (off + n)).toArray) ⟨rfl, rfl, rfl, by simp, fun k _ hk => setRow_other w g k _ (fun e => hk (by simp [Res.blk, e]))⟩ (r' := .arr g A _) ⟨hg.1, setRow_heap w g _ _ A _ hg.2⟩ (fun g' hg' => .inl hg')⟩
    unfold execOp
    simp only [ho, hd, hx, resolve, invoke, builtin, Sem.run_bind, Sem.run_pure, Result.andThen_ok, List.map_toArray, List.map_cons, List.map_nil, hrun]
    rfl
theorem arp {g : Nat} {cs : List Value} (h : Arr T w g cs) (l m : Nat) {c : Nat} (hc : m - l ≤ c) : Rc w.heap.size w (.slice (some ⟨g, l, none⟩) (m - l) c) (m - l) ((cs.take m).drop l) := by
  refine ⟨_, _, rfl, hc, (fun h => by cases h), fun a ha j u hu => ?_⟩
  obtain rfl := Option.some.inj ha
  rw [Addr.add_lit, cell_of_row w g (l + j) _ T (0, 0) h]
  rw [List.getElem?_drop, List.getElem?_take] at hu
  split at hu
  · exact ⟨by simpa using hu, h.lt⟩
  · cases hu
end
/-- The nil slice, as one of the call's own. -/
theorem Mo.nil {w0 w : World} {L : List Res} (m : Mo w0 w L) (E : TypeId) (z : Nat) : Mo w0 w (.own E z (.slice none 0 0) 0 [] :: L) :=
  m.new (Below.refl _ _) (World.ownsRow_nil w _ E z)
theorem cells_mid (l a : List UInt8) (off k : Nat) : (cellsOf l).take off ++ cellsOf a ++ (cellsOf l).drop k = cellsOf (l.take off ++ a ++ l.drop k) := by
  simp [cellsOf, List.map_take, List.map_drop]
section
variable {P : Program} {ρ : Operand → Value} {o : Oper} {w : World}
theorem x_min (x y : Operand) (ts : Array TypeId) (ho : o.op = .call { callee := .builtin .min, args := #[x, y], argTypes := ts }) (k : IntKind) (X Y Z : Nat) (hZ : min X Y = Z) (hx : ρ x = .int k (X : Int)) (hy : ρ y = .int k (Y : Int)) :
    (execOp ρ o).run P w = .ok (.value (.int k (Z : Int))) w := by
  subst hZ
  unfold execOp
  have e : (if (Y : Int) < (X : Int) then (Y : Int) else (X : Int)) = ((min X Y : Nat) : Int) := by split <;> omega
  simp only [ho, hx, hy, resolve, invoke, builtin, Builtin.min_, Builtin.min2, Sem.run_bind, Sem.run_pure, Result.andThen_ok, List.map_toArray, List.map_cons, List.map_nil, List.foldlM_cons, List.foldlM_nil, e]
theorem x_max (x y : Operand) (ts : Array TypeId) (ho : o.op = .call { callee := .builtin .max, args := #[x, y], argTypes := ts }) (k : IntKind) (X Y Z : Int) (hZ : max X Y = Z) (hx : ρ x = .int k X) (hy : ρ y = .int k Y) :
    (execOp ρ o).run P w = .ok (.value (.int k Z)) w := by
  subst hZ
  unfold execOp
  have e : (if Y > X then Y else X) = max X Y := by split <;> omega
  simp only [ho, hx, hy, resolve, invoke, builtin, Builtin.max_, Builtin.max2, Sem.run_bind, Sem.run_pure, Result.andThen_ok, List.map_toArray, List.map_cons, List.map_nil, List.foldlM_cons, List.foldlM_nil, e]
end
/-- What a callee has made. -/
theorem Mo.join {w0 w w' : World} {L L' : List Res} (m : Mo w0 w L) (m' : Mo w w' L') (hm : L'.all Res.mine = true := by rfl) : Mo w0 w' (L' ++ L) := by
  have h1 := m.gr m'.below
  refine ⟨h1.below, fun r hr => ?_, List.pairwise_append.2 ⟨m'.ap, m.ap, fun a ha b hb g h2 h3 => ?_⟩⟩
  · rcases List.mem_append.1 hr with hr | hr
    · exact (m'.ok r hr).mono m.size
    · exact h1.ok r hr
  · have h4 := ((m'.ok a ha).blk (List.all_eq_true.1 hm a ha) g h2).1
    have h5 := (m.ok b hb).lt g h3
    omega
section
variable {P : Program} {Q : Exit → Act → World → Prop} {N : Nat} {s : List (Nat × Value)} {w : World} {fn : Func} {R : Ending → World → Prop} {p u : Tmp} {T E : TypeId} {n : Nat} {z : Value} {g : Nat} {cs : List Value}
/-- An array in a block is told. -/
theorem rta (t : AT P T E n z) (h : fn.results = #[.cell p T]) (hc : cs.length = n) (hr : Arr T w g cs) (hp : ev N s (.tmp p) = .pointer (some ⟨g, 0, none⟩)) (hR : R (.returned (.agg cs.toArray)) w) : bodyPost P fn R .ret (A N s) w :=
  bodyPost_ret (results_arr t h _ w g cs hc (by rw [A_getD]; exact hp) hr) rfl hR
theorem rtan (t : AT P T E n z) (h : fn.results = #[.cell p T]) (hc : cs.length = n) (hr : Arr T w g cs) (hp : ev N s (.tmp p) = .pointer (some ⟨g, 0, none⟩)) (hR : R (.returned (.agg cs.toArray)) w) : bodyPost P fn R .normal (A N s) w :=
  bodyPost_end (results_arr t h _ w g cs hc (by rw [A_getD]; exact hp) hr) rfl hR
theorem rtat (t : AT P T E n z) (h : fn.results = #[.cell p T, .tmp u]) (hc : cs.length = n) (hr : Arr T w g cs) (hp : ev N s (.tmp p) = .pointer (some ⟨g, 0, none⟩)) (hR : R (.returned (.tuple #[.agg cs.toArray, ev N s (.tmp u)])) w) : bodyPost P fn R .ret (A N s) w :=
  bodyPost_ret (by rw [results_arr_tmp t h _ w g cs hc (by rw [A_getD]; exact hp) hr, A_getD]) rfl hR
end
theorem c8_get {l : List UInt8} {i : Nat} (h : i < l.length) : (cellsOf l)[i]? = some (.int .u8 (((at8 l i).toNat : Nat) : Int)) := by
  simp only [cellsOf, List.getElem?_map, at8_get h, Option.map_some]
def at64 (l : List Nat) (i : Nat) : Nat := l.getD i 0
theorem c64_get {l : List Nat} {i : Nat} (h : i < l.length) : (c64 l)[i]? = some (.int .u64 ((at64 l i : Nat) : Int)) := by
  simp [c64, at64, List.getD_eq_getElem?_getD, h]
/-- Each takes one cell, itself. -/
def OneC (cs : List Value) : Prop := ∀ u ∈ cs, u.cells = #[u]
theorem one_size {cs : List Value} (h : OneC cs) : ∀ u ∈ cs, u.cells.size = 1 := fun u hu => by rw [h u hu]; rfl
theorem one_flat {cs : List Value} (h : OneC cs) : (cs.flatMap fun v => v.cells.toList) = cs := by
  induction cs with
  | nil => rfl
  | cons u cs ih => rw [List.flatMap_cons, h u List.mem_cons_self, ih fun x hx => h x (List.mem_cons_of_mem _ hx)]; rfl
theorem cells_oc8 (l : List UInt8) : OneC (cellsOf l) := fun u hu => by obtain ⟨c, _, rfl⟩ := List.mem_map.1 hu; rfl
theorem cells_oc32 (l : List Nat) : OneC (c32 l) := fun u hu => by obtain ⟨c, _, rfl⟩ := List.mem_map.1 hu; rfl
theorem cells_oc64 (l : List Nat) : OneC (c64 l) := fun u hu => by obtain ⟨c, _, rfl⟩ := List.mem_map.1 hu; rfl
theorem c32_get2 {l : List Nat} {i x : Nat} (e : at32 l i = x) (h : i < l.length) : (c32 l)[i]? = some (.int .u32 (x : Int)) := by rw [c32_get h, e]
theorem made8 (n : Nat) : (madeCells (Value.int IntKind.u8 0).cells (n * 1)).toList = cellsOf (List.replicate n 0) := by
  rw [Nat.mul_one]
  show (madeCells #[Value.int IntKind.u8 0] n).toList = _
  rw [toList_madeCells_one]
  simp [cellsOf]
theorem made64 (n : Nat) : (madeCells (Value.int IntKind.u64 0).cells (n * 1)).toList = c64 (List.replicate n 0) := by
  rw [Nat.mul_one]
  show (madeCells #[Value.int IntKind.u64 0] n).toList = _
  rw [toList_madeCells_one]
  simp [c64]
theorem set_one {cs : List Value} {j : Nat} {u : Value} (h : j < cs.length) : cs.take j ++ [u] ++ cs.drop (j + [u].length) = cs.set j u := by
  rw [List.set_eq_take_append_cons_drop, if_pos h, List.append_assoc]; rfl
theorem cells_set8 {l : List UInt8} {j : Nat} {c : UInt8} (h : j < l.length) : (cellsOf l).take j ++ [Value.int .u8 ((c.toNat : Nat) : Int)] ++ (cellsOf l).drop (j + [Value.int .u8 ((c.toNat : Nat) : Int)].length) = cellsOf (l.set j c) := by
  rw [set_one (by rw [cellsOf_length]; exact h), cellsOf_set]
theorem cells_set32 {l : List Nat} {j c : Nat} (h : j < l.length) : (c32 l).take j ++ [Value.int .u32 ((c : Nat) : Int)] ++ (c32 l).drop (j + [Value.int .u32 ((c : Nat) : Int)].length) = c32 (l.set j c) := by
  rw [set_one (by rw [c32_length]; exact h)]; simp [c32, List.map_set]
theorem cells_set64 {l : List Nat} {j c : Nat} (h : j < l.length) : (c64 l).take j ++ [Value.int .u64 ((c : Nat) : Int)] ++ (c64 l).drop (j + [Value.int .u64 ((c : Nat) : Int)].length) = c64 (l.set j c) := by
  rw [set_one (by rw [c64_length]; exact h)]; simp [c64, List.map_set]
end Go.Proofs.Ytpfoeeiacfadfaa
