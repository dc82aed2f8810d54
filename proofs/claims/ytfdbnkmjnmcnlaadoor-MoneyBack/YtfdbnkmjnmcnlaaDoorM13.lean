/-
  There and back: plain facts on a written amount, and on one without the noughts at its end.
-/
import Derived.Test.YtfdbnkmjnmcnlaaDoorM12
namespace Go.Proofs.YtfdbnkmjnmcnlaaDoor
open Go.RowKit

theorem back_val (v : Nat) (p : List UInt8) (j : Nat) (hp : figs (v % 100000000) 8 = p ++ zeros j) (h1 : 1 ≤ p.length) :
    okL (figs (v / 100000000) 1 ++ 46 :: p) = true ∧ valL (MM + 1) (figs (v / 100000000) 1 ++ 46 :: p) = min v (MM + 1) := by
  have hl : p.length + j = 8 := by
    have := figs_length_le 8 (v % 100000000) (by omega)
    rw [hp] at this
    simpa [zeros] using this
  have hF : ∀ c ∈ p, isF c = true := fun c hc => figs_isF (v % 100000000) 8 c (by rw [hp]; simp [hc])
  obtain ⟨h2, h3⟩ := read_point (MM + 1) (v / 100000000) p hF h1 (by omega)
  refine ⟨h2, ?_⟩
  rw [h3, show 8 - p.length = j by omega, ← hp, cap_all _ _ _ (by omega) _ rfl, show v / 100000000 * 100000000 + v % 100000000 = v by omega]
theorem back_plain (v : Nat) (hp : figs (v % 100000000) 8 = zeros 8) :
    okL (figs (v / 100000000) 1) = true ∧ valL (MM + 1) (figs (v / 100000000) 1) = min v (MM + 1) := by
  obtain ⟨h2, h3⟩ := read_plain (MM + 1) (v / 100000000)
  refine ⟨h2, ?_⟩
  rw [h3, ← hp, cap_all _ _ _ (by omega) _ rfl, show v / 100000000 * 100000000 + v % 100000000 = v by omega]

theorem parse_of {v : Nat} {l : List UInt8} (h : okL l = true ∧ valL (MM + 1) l = min v (MM + 1)) (hv : v ≤ MM) : parseV (MM + 1) l = v ∧ parseE (MM + 1) l = 0 := by
  have := parse_ok (C := MM + 1) h.1 (by rw [h.2]; omega)
  rw [h.2] at this
  exact ⟨by rw [this.1]; omega, this.2⟩
theorem parse_over {v : Nat} {l : List UInt8} (h : okL l = true ∧ valL (MM + 1) l = min v (MM + 1)) (hv : ¬ v ≤ MM) : parseV (MM + 1) l = 0 ∧ parseE (MM + 1) l = 31 :=
  parse_high (C := MM + 1) h.1 (by rw [h.2]; omega)

theorem bl_take (T : ByteArray) (k : Nat) : bl (T.extract 0 k) = (bl T).take k := by
  conv => lhs; rw [tx_bl T, tx_take, bl_mk]

/-- What has been cut so far. -/
def Cut (v : Nat) (T : ByteArray) (p : List UInt8) (j : Nat) : Prop := bl T = figs (v / 100000000) 1 ++ 46 :: p ∧ figs (v % 100000000) 8 = p ++ zeros j

theorem Cut.start (v : Nat) : Cut v ⟨(printL v).toArray⟩ (figs (v % 100000000) 8) 0 := ⟨by rw [bl_mk]; rfl, by simp [zeros]⟩
theorem Cut.pos {v : Nat} {T : ByteArray} {p : List UInt8} {j : Nat} (h : Cut v T p j) : 1 ≤ T.size := by
  rw [← bl_length, h.1]; simp; omega
theorem Cut.last_nil {v : Nat} {T : ByteArray} {j : Nat} (h : Cut v T [] j) (hi : T.size - 1 < (bl T).length) : (bl T)[T.size - 1] = 46 := by
  have h1 := h.1
  have hs : T.size = (figs (v / 100000000) 1).length + 1 := by rw [← bl_length, h1]; simp
  have : (bl T)[T.size - 1]? = some 46 := by rw [h1, hs]; simp
  rw [List.getElem?_eq_getElem hi] at this
  exact Option.some.inj this
theorem Cut.last_cons {v : Nat} {T : ByteArray} {p : List UInt8} {c : UInt8} {j : Nat} (h : Cut v T (p ++ [c]) j) (hi : T.size - 1 < (bl T).length) : (bl T)[T.size - 1] = c := by
  have h1 := h.1
  have hs : T.size = (figs (v / 100000000) 1).length + (p.length + 1) + 1 := by rw [← bl_length, h1]; simp; omega
  have : (bl T)[T.size - 1]? = some c := by
    rw [h1, hs, show (figs (v / 100000000) 1).length + (p.length + 1) + 1 - 1 = (figs (v / 100000000) 1).length + (p.length + 1) by omega]
    rw [List.getElem?_append_right (by omega), show (figs (v / 100000000) 1).length + (p.length + 1) - (figs (v / 100000000) 1).length = p.length + 1 by omega]
    simp
  rw [List.getElem?_eq_getElem hi] at this
  exact Option.some.inj this
theorem list_last (p : List UInt8) : p = [] ∨ ∃ q c, p = q ++ [c] := by
  rcases List.eq_nil_or_concat p with h | ⟨q, c, h⟩
  · exact .inl h
  · exact .inr ⟨q, c, by simpa using h⟩
/-- A nought at the end is cut off. -/
theorem Cut.step {v : Nat} {T : ByteArray} {p : List UInt8} {j : Nat} (h : Cut v T p j) (hi : T.size - 1 < (bl T).length) (hc : (bl T)[T.size - 1].toNat = 48) : ∃ q, Cut v (T.extract 0 (T.size - 1)) q (j + 1) := by
  rcases list_last p with rfl | ⟨q, c, rfl⟩
  · rw [h.last_nil hi] at hc; simp at hc
  · rw [h.last_cons hi] at hc
    obtain rfl : c = 48 := UInt8.toNat_inj.1 hc
    refine ⟨q, ?_, ?_⟩
    · have hs : T.size - 1 = (figs (v / 100000000) 1 ++ 46 :: q).length := by rw [← bl_length, h.1]; simp
      rw [bl_take, hs, h.1]
      rw [show figs (v / 100000000) 1 ++ 46 :: (q ++ [48]) = (figs (v / 100000000) 1 ++ 46 :: q) ++ [48] by simp]
      exact List.take_left
    · rw [h.2]; simp [zeros, List.replicate_succ]
/-- At the end: a point, or a figure. -/
theorem Cut.done_point {v : Nat} {T : ByteArray} {p : List UInt8} {j : Nat} (h : Cut v T p j) (hi : T.size - 1 < (bl T).length) (hc : (bl T)[T.size - 1].toNat = 46) (hv : v ≤ MM) :
    parseV (MM + 1) (bl (T.extract 0 (T.size - 1))) = v ∧ parseE (MM + 1) (bl (T.extract 0 (T.size - 1))) = 0 := by
  rcases list_last p with rfl | ⟨q, c, rfl⟩
  · have hs : T.size - 1 = (figs (v / 100000000) 1).length := by rw [← bl_length, h.1]; simp
    have e : bl (T.extract 0 (T.size - 1)) = figs (v / 100000000) 1 := by
      rw [bl_take, hs, h.1]
      exact List.take_left
    rw [e]
    refine parse_of (back_plain v ?_) hv
    have := figs_length_le 8 (v % 100000000) (by omega)
    have h2 := h.2
    rw [h2] at this
    simp only [List.nil_append, zeros, List.length_replicate] at this h2
    rw [h2, this]; rfl
  · rw [h.last_cons hi] at hc
    have := figs_isF (v % 100000000) 8 c (by rw [h.2]; simp)
    rw [isF_iff] at this
    omega
theorem Cut.done_figure {v : Nat} {T : ByteArray} {p : List UInt8} {j : Nat} (h : Cut v T p j) (hi : T.size - 1 < (bl T).length) (hc : ¬ (bl T)[T.size - 1].toNat = 46) (hv : v ≤ MM) :
    parseV (MM + 1) (bl T) = v ∧ parseE (MM + 1) (bl T) = 0 := by
  rcases list_last p with rfl | ⟨q, c, rfl⟩
  · rw [h.last_nil hi] at hc; simp at hc
  · rw [h.1]
    exact parse_of (back_val v _ j h.2 (by simp)) hv
theorem print_back (v : Nat) (hv : v ≤ MM) : parseV (MM + 1) (printL v) = v ∧ parseE (MM + 1) (printL v) = 0 :=
  parse_of (back_val v (figs (v % 100000000) 8) 0 (by simp [zeros]) (by rw [figs_length_le 8 _ (by omega)]; omega)) hv
theorem print_over (v : Nat) (hv : ¬ v ≤ MM) : parseV (MM + 1) (printL v) = 0 ∧ parseE (MM + 1) (printL v) = 31 :=
  parse_over (back_val v (figs (v % 100000000) 8) 0 (by simp [zeros]) (by rw [figs_length_le 8 _ (by omega)]; omega)) hv
end Go.Proofs.YtfdbnkmjnmcnlaaDoor
