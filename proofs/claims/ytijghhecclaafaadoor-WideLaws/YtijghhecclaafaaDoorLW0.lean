/-
  Plain mathematics of the laws of package wide.
-/
import Derived.Test.YtijghhecclaafaaDoorV12
import Derived.Test.YtijghhecclaafaaDoorArrOpenW
namespace Go.Proofs.YtijghhecclaafaaDoor
theorem undo_add (a b s c : Nat) (ha : a < M) (hb : b < M) (hs : (a + b) % M = s) (hc : (a + b) / M = c) : (s + M - b) % M = a ∧ (if s < b then 1 else 0) = c := by
  have h := Nat.div_add_mod (a + b) M
  rw [hs, hc] at h
  have hsl : s < M := hs ▸ Nat.mod_lt _ (by decide)
  clear hs hc
  unfold M at *
  constructor
  · omega
  · split <;> omega
end Go.Proofs.YtijghhecclaafaaDoor
