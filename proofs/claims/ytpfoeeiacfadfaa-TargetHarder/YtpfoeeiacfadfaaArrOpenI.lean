/-
  An argument that is an array of ints: what it reads as.
-/
import Derived.Test.YtpfoeeiacfadfaaBytes
import Derived.OpenShut
import Derived.WideShapes
namespace Go.Proofs.Ytpfoeeiacfadfaa
open Go.RowKit

theorem open_int_array {H : Type} {enc : TypeId × Value → H} {P : Program} {w : World} {base : Nat} {spare : Nat → Bool} {held : Bool} {r : Reach} {b0 : Nat} {t E : TypeId} {N : Nat} {k : IntKind} {v : Value} {d : DataW H} {p : List MemPlace}
    (ht : P.underlying t = some (.array N E)) (hE : P.underlying E = some (.int k)) (cE : P.cellsOf E = 1) (hC : P.cellsOf t = N)
    (hv : Value.okWide P w r b0 t v) (h : DataW.Trod enc P w base spare held t v d p) : ∃ l : List Int, l.length = N ∧ (∀ z ∈ l, (Lit.int k z).wf = true) ∧ v = .agg (l.map (Value.int k)).toArray := by
  unfold Value.okWide at hv
  rw [ht] at hv
  obtain ⟨cs, rfl, hsz, _⟩ := hv
  obtain ⟨fuel, hf⟩ := h
  obtain ⟨xs, m, _, _, hlen, hxl, hi⟩ := DataW.trod_array ht hf
  rw [hC] at hsz hlen
  have key : ∀ i (hi' : i < N), ∃ n : Int, cs[i]? = some (.int k n) ∧ (Lit.int k n).wf = true := by
    intro i hi'
    have h1 := hi i hi'
    have h2 : xs[i]? = some xs[i] := by simp [show i < xs.length by omega]
    rw [h2] at h1
    obtain ⟨n, hn, _, hw⟩ := DataW.trod_int hE h1
    refine ⟨n, ?_, hw⟩
    have hlt : i < cs.size := by omega
    simp only [Value.cells, cE, Nat.mul_one] at hn
    rw [List.drop_eq_getElem_cons (by simpa using hlt)] at hn
    simp at hn
    simp [hlt, hn]
  refine ⟨(List.range N).map fun i => match (cs[i]? : Option Value) with | some (.int _ n) => n | _ => 0, by simp, ?_, ?_⟩
  · intro z hz
    simp only [List.mem_map, List.mem_range] at hz
    obtain ⟨i, hi', rfl⟩ := hz
    obtain ⟨n, hn, hw⟩ := key i hi'
    simp only [hn]
    exact hw
  · congr 1
    apply Array.ext_getElem?
    intro i
    by_cases hi' : i < N
    · obtain ⟨n, hn, _⟩ := key i hi'
      simp [hi', hn]
    · rw [Array.getElem?_eq_none (by omega)]
      simp [hi']
end Go.Proofs.Ytpfoeeiacfadfaa
