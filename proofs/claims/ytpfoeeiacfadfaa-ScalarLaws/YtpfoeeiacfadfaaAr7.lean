/-
  Statements that draw their order and write at their end: what the walks of package wide take of it.
-/
import Derived.Test.YtpfoeeiacfadfaaAr6
import Derived.Test.YtpfoeeiacfadfaaMild3
namespace Go.Proofs.Ytpfoeeiacfadfaa
open Go.RowKit

theorem Mild3.step_quiet {P : Program} {md : Region.Mode} {ops : Array Oper} {G G0 : World → World → Prop} {C C0 : World → Prop} {K0 : FuncId → Array Value → Value → World → Prop} (F : Mild3.Fit G G0 C C0 K0) {Q : Act → World → Prop} {i : Nat} {o : Oper} {rest : List Oper} {a : Act} {fs : Option Tmp → World → Prop} (hw : Region.wanted o (yielded ops a.tmps) = true) (hp : Mild2.plainOp o.op = true) (hd : o.dst.isSome = true) (he : Mild3.ea md ops i = true) (hsn : Mild3.st ops i = false)
    (h : ∀ w0, C0 w0 → Mild3.has fs (o.looksAt ops) w0 → ∀ K : Act → Prop, (∀ a', Mild3.wpMild P md ops G G0 C C0 K0 Q (i + 1) rest a' fs → K a') → o.quiet P a (fun w' => ∃ n, w' = w0.drewN n) K) : Mild3.wpMild P md ops G G0 C C0 K0 Q i (o :: rest) a fs := by
  unfold Mild3.wpMild
  simp only [hw, if_true]
  refine ⟨fun v _ => Mild3.wpMild P md ops G G0 C C0 K0 Q (i + 1) rest (a.put o.dst v) fs, fun v w w' _ h => h, fun w hcw h0 hh => ?_, fun h => (by rw [he] at h; cases h), fun v hv => ?_⟩
  · obtain ⟨v, h1, h2⟩ := h w (h0 he) hh _ (fun _ h => h)
    have h3 := h1 w ⟨0, rfl⟩
    rw [Mild3.rel_of_not hsn]
    unfold Oper.quietAt at h3
    generalize hr : (execOp a.eval o).run P w = r at h3
    cases r with
    | ok n w2 =>
      cases n <;> simp only [Oper.quietUpon] at h3 <;> simp only [Mild3.mildUpon]
      case value u => obtain ⟨rfl, rfl⟩ := h3; exact ⟨F.refl0 _, h2⟩
      case skip => obtain ⟨rfl, rfl⟩ := h3; exact ⟨F.refl0 _, h2⟩
      case enter f args => exact absurd hr (Mild2.plain_no_enter hp)
    | halt x w2 => simp only [Oper.quietUpon] at h3
  · obtain ⟨w, _, h1⟩ := hv (fun e => by rw [e] at hd; simp at hd)
    exact Mild3.wpMild_mono _ _ _ _ _ (fun t w _ h => h.1) h1

theorem W_fit (T : TypeId) (V : Nat → List Value → List Value → Prop) (ht : ∀ k a b c, V k a b → V k b c → V k a c) (w0 : World) (K0 : FuncId → Array Value → Value → World → Prop) (hK : ∀ f args v w w', K0 f args v w → K0 f args v w') : Mild3.Fit (Vw T V) Gr (Vw T V w0) (Gr w0) K0 where
  refl := Vw.refl
  trans := fun _ _ _ => Vw.trans ht
  inC := fun _ _ => Vw.trans ht
  keep := fun _ _ _ _ _ h _ => hK _ _ _ _ _ h
  refl0 := Gr.refl
  sub := fun _ _ => Vw.of_gr
  in0 := fun _ _ => Gr.trans
  c0 := fun _ => Vw.of_gr

theorem exec_move {P : Program} {ρ : Operand → Value} {o : Oper} {w : World} (x : Operand) (ho : o.op = .move x ∨ o.op = .assign x) (v : Value) (hx : ρ x = v) : (execOp ρ o).run P w = .ok (.value v) w := by
  subst hx; unfold execOp; rcases ho with ho | ho <;> simp only [ho, Sem.run_pure]
theorem exec_extract {P : Program} {ρ : Operand → Value} {o : Oper} {w : World} (x : Operand) (n : Nat) (ho : o.op = .extract x n) (vs : List Value) (v : Value) (hx : ρ x = .tuple vs.toArray) (hv : vs[n]? = some v) : (execOp ρ o).run P w = .ok (.value v) w := by
  unfold execOp
  have h : vs.toArray[n]? = some v := by simpa using hv
  simp [ho, hx, h, Instr.extract]
theorem exec_shlZ {P : Program} {ρ : Operand → Value} {o : Oper} {w : World} (x y : Operand) (T U : TypeId) (ho : o.op = .binOp .shl T x y U) (X c Z : Nat) (hZ : X * 2 ^ c % 18446744073709551616 = Z) (k : IntKind) (u : Int) (hu : u = (c : Int)) (hc : c ≤ 64) (hx : ρ x = .int .u64 (X : Int)) (hy : ρ y = .int k u) :
    (execOp ρ o).run P w = .ok (.value (.int .u64 (Z : Int))) w := by subst hZ; exact exec_shl x y T U ho X c k u hu hc hx hy
theorem exec_shrZ {P : Program} {ρ : Operand → Value} {o : Oper} {w : World} (x y : Operand) (T U : TypeId) (ho : o.op = .binOp .shr T x y U) (X c Z : Nat) (hZ : X / 2 ^ c = Z) (k : IntKind) (u : Int) (hu : u = (c : Int)) (hc : c ≤ 64) (hx : ρ x = .int .u64 (X : Int)) (hy : ρ y = .int k u) :
    (execOp ρ o).run P w = .ok (.value (.int .u64 (Z : Int))) w := by subst hZ; exact exec_shr x y T U ho X c k u hu hc hx hy
end Go.Proofs.Ytpfoeeiacfadfaa
