/-
  Plain facts on single operations over whole numbers of any kind, each told as the value that it yields; on calls, choices, results.
-/
import Derived.Test.YtpfoeeiacfadfaaX1
import Derived.Test.YtpfoeeiacfadfaaU64
import Derived.Lib.ConvBytes
namespace Go.Proofs.Ytpfoeeiacfadfaa
open Go.RowKit

def lim : IntKind → Nat
  | .i8 => 128 | .u8 => 256 | .i16 => 32768 | .u16 => 65536 | .i32 => 2147483648 | .u32 => 4294967296 | .i64 => 9223372036854775808 | .u64 => 18446744073709551616
theorem wrapN (k : IntKind) (Z : Nat) (h : Z < lim k) : k.wrap (Z : Int) = (Z : Int) := by
  cases k <;> simp only [lim] at h <;> simp [IntKind.wrap, IntKind.bits, IntKind.signed] <;> omega

section
variable {P : Program} {ρ : Operand → Value} {o : Oper} {w w0 : World} {L : List Res}
section
variable (x y : Operand) (T U : TypeId)
theorem x_add (ho : o.op = .binOp .add T x y U) (X Y Z : Nat) (k : IntKind) (h : X + Y = Z ∧ Z < lim k) (hx : ρ x = .int k (X : Int)) (hy : ρ y = .int k (Y : Int)) : (execOp ρ o).run P w = .ok (.value (.int k (Z : Int))) w := by
  obtain ⟨rfl, h⟩ := h
  have e : (X : Int) + (Y : Int) = ((X + Y : Nat) : Int) := by omega
  unfold execOp
  simp only [ho, hx, hy, Sem.run_bind, run_eqGuard_no .add (by decide), Result.andThen_ok, binOp, Op.intArith, ne_eq, not_true_eq_false, if_false, Sem.run_pure]
  rw [e, wrapN k _ h]
theorem x_sub (ho : o.op = .binOp .sub T x y U) (X Y Z : Nat) (k : IntKind) (h : Z + Y = X ∧ Z < lim k) (hx : ρ x = .int k (X : Int)) (hy : ρ y = .int k (Y : Int)) : (execOp ρ o).run P w = .ok (.value (.int k (Z : Int))) w := by
  have e : (X : Int) - (Y : Int) = ((Z : Nat) : Int) := by omega
  unfold execOp
  simp only [ho, hx, hy, Sem.run_bind, run_eqGuard_no .sub (by decide), Result.andThen_ok, binOp, Op.intArith, ne_eq, not_true_eq_false, if_false, Sem.run_pure]
  rw [e, wrapN k _ h.2]
theorem x_lss_t (ho : o.op = .binOp .lss T x y U) (X Y : Nat) (k : IntKind) (h : X < Y) (hx : ρ x = .int k (X : Int)) (hy : ρ y = .int k (Y : Int)) : (execOp ρ o).run P w = .ok (.value (.bool true)) w := by
  have e : ((X : Int) < (Y : Int)) := by omega
  unfold execOp
  simp only [ho, hx, hy, Sem.run_bind, run_eqGuard_no .lss (by decide), Result.andThen_ok, binOp, Op.intCmp, ne_eq, not_true_eq_false, if_false, Sem.run_pure, e, decide_true]
theorem x_lss_f (ho : o.op = .binOp .lss T x y U) (X Y : Nat) (k : IntKind) (h : ¬ X < Y) (hx : ρ x = .int k (X : Int)) (hy : ρ y = .int k (Y : Int)) : (execOp ρ o).run P w = .ok (.value (.bool false)) w := by
  have e : ¬ ((X : Int) < (Y : Int)) := by omega
  unfold execOp
  simp only [ho, hx, hy, Sem.run_bind, run_eqGuard_no .lss (by decide), Result.andThen_ok, binOp, Op.intCmp, ne_eq, not_true_eq_false, if_false, Sem.run_pure, e, decide_false]
theorem x_eqi (ho : o.op = .binOp .eql T x y U) (X Y : Int) (k : IntKind) (hx : ρ x = .int k X) (hy : ρ y = .int k Y) : (execOp ρ o).run P w = .ok (.value (.bool (X == Y))) w := by
  unfold execOp
  simp [go_sem, ho, hx, hy]
end
theorem x_pick (c x y : Operand) (ho : o.op = .pick c x y) (b : Bool) (v : Value) (hc : ρ c = .bool b) (hv : (if b then ρ x else ρ y) = v) : (execOp ρ o).run P w = .ok (.value v) w := by
  subst hv
  unfold execOp
  simp only [ho, hc, asBool, Sem.run_bind, Sem.run_pure, Result.andThen_ok]
/-- A function with a body of its own. -/
def isGo (P : Program) (f : FuncId) : Bool := match P.funcs[f]? with | some fn => !(fn.name == "runtime.NumGoroutine") && !fn.body.isNone | none => false
theorem run_go {f : FuncId} (h : isGo P f = true) (args : Array Value) : (callFunc f args).run P w = .ok (.enter f args) w := by
  unfold isGo at h
  cases hf : P.funcs[f]? with
  | none => rw [hf] at h; cases h
  | some fn =>
    rw [hf] at h
    simp only [Bool.and_eq_true, Bool.not_eq_true'] at h
    simp only [callFunc, Sem.run_bind, run_program, Result.andThen_ok, hf, h.1, h.2, Bool.false_eq_true, if_false, Sem.run_pure]
/-! A call of a named function. -/
theorem x_cl1 {x0 : Operand} {f : FuncId} {T : Array TypeId} (ho : o.op = .call { callee := .value (.func f), args := #[x0], argTypes := T }) {v0 : Value} (h0 : ρ x0 = v0) (hg : isGo P f = true) (hf : ρ (.func f) = .func (.func f) #[] #[] := by rfl) : (execOp ρ o).run P w = .ok (.enter f #[v0]) w := by
  unfold execOp
  simp [ho, resolve, invoke, Deferred.ofValue, run_go hg, hf, h0]
theorem x_cl2 {x0 x1 : Operand} {f : FuncId} {T : Array TypeId} (ho : o.op = .call { callee := .value (.func f), args := #[x0, x1], argTypes := T }) {v0 v1 : Value} (h0 : ρ x0 = v0) (h1 : ρ x1 = v1) (hg : isGo P f = true) (hf : ρ (.func f) = .func (.func f) #[] #[] := by rfl) : (execOp ρ o).run P w = .ok (.enter f #[v0, v1]) w := by
  unfold execOp
  simp [ho, resolve, invoke, Deferred.ofValue, run_go hg, hf, h0, h1]
theorem x_sla {A E : TypeId} {N : Nat} {z : Value} (t : AT P A E N z) (x : Operand) (ho : o.op = .slice A x none none none) (g : Nat) (hx : ρ x = .pointer (some ⟨g, 0, none⟩)) :
    (execOp ρ o).run P w = .ok (.value (.slice (some ⟨g, 0, none⟩) N N)) w := by
  unfold execOp
  simp only [ho, hx, Sem.run_bind, Sem.run_pure, Result.andThen_ok, Option.map_none, run_slice_arr t w g]
theorem at_size {A E : TypeId} {N : Nat} {z : Value} (t : AT P A E N z) {us : List Value} (h : us.length = N) : (P.info? A).map (·.size) = some us.length := by
  obtain ⟨i, hi, _, hs⟩ := t.parts
  rw [hi, h, ← hs]; rfl
end
theorem sta_all {cs us : List Value} {N : Nat} (h1 : cs.length = N) (h2 : us.length = N) : cs.take 0 ++ us ++ cs.drop (0 + us.length) = us := by
  rw [h2, ← h1]; simp
theorem pick_ap {L : List Res} (hp : L.Pairwise Res.ap) {i j : Nat} {a b : Res} (hij : i ≠ j) (ha : L[i]? = some a) (hb : L[j]? = some b) : a.ap b := by
  obtain ⟨ha', ea⟩ := List.getElem?_eq_some_iff.1 ha
  obtain ⟨hb', eb⟩ := List.getElem?_eq_some_iff.1 hb
  rw [← ea, ← eb]
  rcases Nat.lt_or_ge i j with h | h
  · exact List.pairwise_iff_getElem.1 hp i j ha' hb' h
  · exact Res.ap_symm (List.pairwise_iff_getElem.1 hp j i hb' ha' (by omega))
def picks (L : List Res) : List Nat → List Res → Prop
  | [], [] => True
  | i :: is, r :: rs => L[i]? = some r ∧ picks L is rs
  | _, _ => False
theorem picks_mem {L : List Res} : ∀ {is : List Nat} {rs : List Res}, picks L is rs → ∀ r ∈ rs, ∃ i ∈ is, L[i]? = some r
  | [], [], _, _, h => absurd h List.not_mem_nil
  | i :: is, r :: rs, h, x, hx => by
    rcases List.mem_cons.1 hx with rfl | hx
    · exact ⟨i, List.mem_cons_self, h.1⟩
    · obtain ⟨j, hj, e⟩ := picks_mem h.2 x hx; exact ⟨j, List.mem_cons_of_mem _ hj, e⟩
  | [], _ :: _, h, _, _ => h.elim
  | _ :: _, [], h, _, _ => h.elim
/-- Some of these things, in any order. -/
theorem Mo.pick {w0 w : World} {L : List Res} (m : Mo w0 w L) (is : List Nat) {rs : List Res} (hn : is.Nodup) (h : picks L is rs) : Mo w0 w rs := by
  refine ⟨m.below, fun r hr => ?_, ?_⟩
  · obtain ⟨i, _, e⟩ := picks_mem h r hr
    exact m.get e
  · induction is generalizing rs with
    | nil => cases rs with
      | nil => exact List.Pairwise.nil
      | cons r rs => exact h.elim
    | cons i is ih => cases rs with
      | nil => exact List.Pairwise.nil
      | cons r rs =>
        rw [List.nodup_cons] at hn
        refine List.pairwise_cons.2 ⟨fun x hx => ?_, ih hn.2 h.2⟩
        obtain ⟨j, hj, e⟩ := picks_mem h.2 x hx
        exact pick_ap m.ap (fun e2 => hn.1 (by rw [e2]; exact hj)) h.1 e
section
variable {P : Program} {ρ : Operand → Value} {o : Oper} {w w0 : World} {L : List Res} {T S E : TypeId}
end
theorem sta_len {cs us : List Value} {N : Nat} (h1 : cs.length = N) (h2 : us.length = N) : 0 + us.length ≤ cs.length := by omega
section
variable {P : Program} {ρ : Operand → Value} {o : Oper} {w w0 : World} {L : List Res} {A T E : TypeId} {N : Nat} {zz : Value}
end
/-- The nil slice, as one of the call's own. -/
theorem Mo.nil {w0 w : World} {L : List Res} (m : Mo w0 w L) (E : TypeId) (z : Nat) : Mo w0 w (.own E z (.slice none 0 0) 0 [] :: L) :=
  m.new (Below.refl _ _) (World.ownsRow_nil w _ E z)
section
variable {P : Program} {ρ : Operand → Value} {o : Oper} {w : World}
end
/-- What a callee has made. -/
theorem Mo.join {w0 w w' : World} {L L' : List Res} (m : Mo w0 w L) (m' : Mo w w' L') (hm : L'.all Res.mine = true := by rfl) : Mo w0 w' (L' ++ L) := by
  have h1 := m.gr m'.below
  refine ⟨h1.below, fun r hr => ?_, List.pairwise_append.2 ⟨m'.ap, m.ap, fun a ha b hb g h2 h3 => ?_⟩⟩
  · rcases List.mem_append.1 hr with hr | hr
    · exact (m'.ok r hr).mono m.size
    · exact h1.ok r hr
  · have h4 := ((m'.ok a ha).blk (List.all_eq_true.1 hm a ha) g h2).1
    have h5 := (m.ok b hb).lt g h3
    omega
section
variable {P : Program} {Q : Exit → Act → World → Prop} {N : Nat} {s : List (Nat × Value)} {w : World} {fn : Func} {R : Ending → World → Prop} {p u : Tmp} {T E : TypeId} {n : Nat} {z : Value} {g : Nat} {cs : List Value}
end
def at64 (l : List Nat) (i : Nat) : Nat := l.getD i 0
/-- Each takes one cell, itself. -/
def OneC (cs : List Value) : Prop := ∀ u ∈ cs, u.cells = #[u]
end Go.Proofs.Ytpfoeeiacfadfaa
