/-
  An argument that is an array of bytes: what it reads as.
-/
import Derived.Test.YtpfoeeiacfadfaaBytes
import Derived.OpenShut
import Derived.WideShapes
namespace Go.Proofs.Ytpfoeeiacfadfaa
open Go.RowKit

theorem open_byte_array {H : Type} {enc : TypeId × Value → H} {P : Program} {w : World} {base : Nat} {spare : Nat → Bool} {held : Bool} {r : Reach} {b0 : Nat} {t E : TypeId} {N : Nat} {v : Value} {d : DataW H} {p : List MemPlace}
    (ht : P.underlying t = some (.array N E)) (hE : P.underlying E = some (.int .u8)) (cE : P.cellsOf E = 1) (hC : P.cellsOf t = N)
    (hv : Value.okWide P w r b0 t v) (h : DataW.Trod enc P w base spare held t v d p) : ∃ l : List UInt8, l.length = N ∧ v = .agg (cellsOf l).toArray := by
  unfold Value.okWide at hv
  rw [ht] at hv
  obtain ⟨cs, rfl, hsz, _⟩ := hv
  obtain ⟨fuel, hf⟩ := h
  obtain ⟨xs, m, _, _, hlen, hxl, hi⟩ := DataW.trod_array ht hf
  rw [hC] at hsz hlen
  have key : ∀ i (hi' : i < N), ∃ c : UInt8, cs[i]? = some (.int .u8 (c.toNat : Int)) := by
    intro i hi'
    have h1 := hi i hi'
    have h2 : xs[i]? = some xs[i] := by simp [show i < xs.length by omega]
    rw [h2] at h1
    obtain ⟨n, hn, _, hw⟩ := DataW.trod_int hE h1
    have e1 : IntKind.u8.min = 0 := rfl
    have e2 : IntKind.u8.max = 255 := rfl
    simp only [Lit.wf, e1, e2, Bool.and_eq_true, decide_eq_true_eq] at hw
    refine ⟨UInt8.ofNat n.toNat, ?_⟩
    have e3 : (((UInt8.ofNat n.toNat).toNat : Nat) : Int) = n := by simp only [UInt8.toNat_ofNat']; omega
    rw [e3]
    have hlt : i < cs.size := by omega
    simp only [Value.cells, cE, Nat.mul_one] at hn
    rw [List.drop_eq_getElem_cons (by simpa using hlt)] at hn
    simp at hn
    simp [hlt, hn]
  refine ⟨(List.range N).map fun i => match (cs[i]? : Option Value) with | some (.int _ n) => UInt8.ofNat n.toNat | _ => 0, by simp, ?_⟩
  congr 1
  apply Array.ext_getElem?
  intro i
  by_cases hi' : i < N
  · obtain ⟨c, hc⟩ := key i hi'
    simp [cellsOf, hi', hc]
  · rw [Array.getElem?_eq_none (by omega)]
    simp [cellsOf, hi']
end Go.Proofs.Ytpfoeeiacfadfaa
