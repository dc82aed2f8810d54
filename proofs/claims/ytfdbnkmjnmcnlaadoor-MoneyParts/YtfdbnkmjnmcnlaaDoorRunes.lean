/-
  Plain facts on going through a text by its runes, in any world: the iterator is a block; nothing else turns.
-/
import Derived.Test.YtfdbnkmjnmcnlaaDoorArr
import Derived.Test.YtfdbnkmjnmcnlaaDoorTxt
import Derived.Laws.RangeAny
namespace Go.Proofs.YtfdbnkmjnmcnlaaDoor
open Go.RowKit

/-- The block g goes through the text s, and stands at pos. -/
def It (w : World) (g : Nat) (s : ByteArray) (pos : Nat) : Prop := w.heap[g]? = some (.stringIter s pos)
def setIt (w : World) (g : Nat) (s : ByteArray) (pos : Nat) : World := { w with heap := w.heap.setIfInBounds g (.stringIter s pos) }

theorem It.lt {w : World} {g : Nat} {s : ByteArray} {pos : Nat} (h : It w g s pos) : g < w.heap.size := (Array.getElem?_eq_some_iff.1 h).1
theorem It.set {w : World} {g : Nat} {s : ByteArray} {pos : Nat} (h : It w g s pos) (pos' : Nat) : It (setIt w g s pos') g s pos' := by
  have := h.lt
  unfold It setIt
  simp [this]
theorem But.setIt (w : World) (g : Nat) (s : ByteArray) (pos : Nat) : But g w (setIt w g s pos) :=
  ⟨rfl, rfl, rfl, by simp [Proofs.YtfdbnkmjnmcnlaaDoor.setIt], fun k hk => by simp [Proofs.YtfdbnkmjnmcnlaaDoor.setIt, Ne.symm hk]⟩
theorem It.but {w w' : World} {g k : Nat} {s : ByteArray} {pos : Nat} (h : It w k s pos) (hb : But g w w') (hk : k ≠ g) : It w' k s pos := by
  unfold It; rw [hb.block k hk]; exact h
theorem It.pos {w : World} {g : Nat} {s : ByteArray} {pos : Nat} (h : It w g s pos) : w.iterPos g = pos := by
  unfold World.iterPos; rw [h]
theorem It.iter (w : World) (s : ByteArray) : It (w.iter s 0) w.heap.size s 0 := World.iter_heap w s 0

section
variable {P : Program}
theorem run_next_it {w : World} {g : Nat} {s : ByteArray} {pos : Nat} (hi : It w g s pos) (ty : TypeId) (h : pos < s.size) :
    (Instr.next (.pointer (some ⟨g, 0, none⟩)) true ty).run P w = .ok (.tuple #[.bool true, .int .i64 pos, .int .i32 (Utf8.decode s pos).1]) (setIt w g s (pos + (Utf8.decode s pos).2)) := by
  simp only [Instr.next, getObj, setObj, Sem.run_bind, Sem.run, show w.heap[g]? = _ from hi, Result.andThen, h, if_true]
  simp [goInt, setIt]
theorem run_next_it_end {w : World} {g : Nat} {s : ByteArray} {pos : Nat} (hi : It w g s pos) (ty : TypeId) (h : ¬ pos < s.size) :
    (Instr.next (.pointer (some ⟨g, 0, none⟩)) true ty).run P w = .ok (.tuple #[.bool false]) w := by
  simp [Instr.next, getObj, Sem.run, show w.heap[g]? = _ from hi, h]
end

/-- The rune at a place: a byte of ASCII, or none. -/
theorem rune_at (s : ByteArray) (pos : Nat) (h : pos < s.size) : ((bl s)[pos]'(by rw [bl_length]; exact h)).toNat < 128 ∧ (Utf8.decode s pos).1 = ((bl s)[pos]'(by rw [bl_length]; exact h)).toNat ∧ (Utf8.decode s pos).2 = 1 ∨
    128 ≤ ((bl s)[pos]'(by rw [bl_length]; exact h)).toNat ∧ 128 ≤ (Utf8.decode s pos).1 := by
  rw [bl_at s pos h]
  by_cases ha : (s[pos]'h).toNat < 128
  · left
    rw [decode_ascii s pos h ha]
    exact ⟨ha, rfl, rfl⟩
  · right
    exact ⟨by omega, (decode_high s pos h (by omega)).1⟩
end Go.Proofs.YtfdbnkmjnmcnlaaDoor
