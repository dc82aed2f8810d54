/-
  An argument that is a number of 256 bits (four words): what it reads as.
-/
import Derived.Test.YtpfoeeiacfadfaaArrOpenI
import Derived.Test.YtpfoeeiacfadfaaV1
namespace Go.Proofs.Ytpfoeeiacfadfaa
open Go.RowKit

theorem open_wide {H : Type} {enc : TypeId × Value → H} {w : World} {base : Nat} {spare : Nat → Bool} {held : Bool} {r : Reach} {b0 : Nat} {v : Value} {d : DataW H} {p : List MemPlace}
    (hv : Value.okWide Try.prog w r b0 24 v) (h : DataW.Trod enc Try.prog w base spare held 24 v d p) : ∃ n : Nat, n < M ∧ v = wv n := by
  obtain ⟨l, hl, hw, rfl⟩ := open_int_array Try.aw.ar Try.u64 (by kernel_rfl) (by kernel_rfl) hv h
  obtain ⟨a, b, c, e, rfl⟩ : ∃ a b c e, l = [a, b, c, e] := by
    match l, hl with
    | [a, b, c, e], _ => exact ⟨a, b, c, e, rfl⟩
  have key : ∀ z ∈ [a, b, c, e], ∃ n : Nat, z = (n : Int) ∧ n < 18446744073709551616 := by
    intro z hz
    have h1 := hw z hz
    have e1 : IntKind.u64.min = 0 := rfl
    have e2 : IntKind.u64.max = 18446744073709551615 := rfl
    simp only [Lit.wf, e1, e2, Bool.and_eq_true, decide_eq_true_eq] at h1
    exact ⟨z.toNat, by omega, by omega⟩
  obtain ⟨a', rfl, ha⟩ := key a (by simp)
  obtain ⟨b', rfl, hb⟩ := key b (by simp)
  obtain ⟨c', rfl, hc⟩ := key c (by simp)
  obtain ⟨e', rfl, he⟩ := key e (by simp)
  refine ⟨a' + 18446744073709551616 * (b' + 18446744073709551616 * (c' + 18446744073709551616 * e')), v4_lt _ _ _ _ ha hb hc he, ?_⟩
  unfold wv
  rw [w4_of _ _ _ _ ha hb hc he]
  rfl
end Go.Proofs.Ytpfoeeiacfadfaa
