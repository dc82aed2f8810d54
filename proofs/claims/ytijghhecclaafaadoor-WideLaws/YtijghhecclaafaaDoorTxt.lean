/-
  Plain facts on texts: their bytes, and a byte at a place.
-/
import Derived.Test.YtijghhecclaafaaDoorRows
import Derived.WalkKit
namespace Go.Proofs.YtijghhecclaafaaDoor
open Go.RowKit

/-- A text's bytes. -/
def bl (s : ByteArray) : List UInt8 := s.data.toList
theorem bl_length (s : ByteArray) : (bl s).length = s.size := by simp [bl]
theorem bl_mk (l : List UInt8) : bl ⟨l.toArray⟩ = l := by simp [bl]
theorem bl_at (s : ByteArray) (k : Nat) (h : k < s.size) : (bl s)[k]'(by rw [bl_length]; exact h) = s[k] := by simp [bl]; rfl
theorem run_at (s : ByteArray) (k : Nat) (h : k < s.size) (c : Nat) (hc : ((bl s)[k]'(by rw [bl_length]; exact h)).toNat = c) (w : World) (i : Int) (hi : i = (k : Int)) : (Instr.index 9 (.string s) (.int .i64 i)).run Tryd.prog w = .ok (.int .u8 c) w := by
  subst hi hc
  rw [bl_at s k h]
  have hu : Tryd.prog.underlying 9 = some .string := by kernel_rfl
  have e : (s[k]? : Option UInt8) = some s[k] := getElem?_pos s k h
  simp [Instr.index, asIntOf, run_underlying hu, e]

theorem tx_append (l m : List UInt8) : (⟨l.toArray⟩ : ByteArray) ++ (⟨m.toArray⟩ : ByteArray) = ⟨(l ++ m).toArray⟩ := by
  apply ByteArray.ext; simp
theorem tx_size (l : List UInt8) : (⟨l.toArray⟩ : ByteArray).size = l.length := by simp [ByteArray.size]
theorem tx_cut (l : List UInt8) (a b : Nat) : (⟨l.toArray⟩ : ByteArray).extract a b = ⟨((l.take b).drop a).toArray⟩ := by
  apply ByteArray.ext; simp [ByteArray.data_extract, List.drop_take]
theorem tx_drop (l : List UInt8) (k n : Nat) (hn : n = l.length) : (⟨l.toArray⟩ : ByteArray).extract k n = ⟨(l.drop k).toArray⟩ := by
  rw [tx_cut, List.take_of_length_le (by omega)]
theorem tx_take (l : List UInt8) (k : Nat) : (⟨l.toArray⟩ : ByteArray).extract 0 k = ⟨(l.take k).toArray⟩ := by
  rw [tx_cut, List.drop_zero]
/-- A text is its bytes. -/
theorem tx_bl (s : ByteArray) : s = ⟨(bl s).toArray⟩ := by simp [bl]
end Go.Proofs.YtijghhecclaafaaDoor
