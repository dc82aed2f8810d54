/-
  A world whose package-level variables, as the rows list them, hold what their text lays; what the rows' list gives of the variables that are read.
-/
import Derived.Test.YtemgaoikngebeaaDoorRows
import Derived.Test.YtemgaoikngebeaaDoorB13
import Derived.WalkKit
import Derived.ProofKit
import Derived.Lib.LaidTab
import Derived.Stop.LaidErr
namespace Go.Proofs.YtemgaoikngebeaaDoor
def putCells (cs : Array Value) : Obj → Obj
  | .cells _ t frozen => .cells cs t frozen
  | o => o
def cells_laid_entail_bech_turns : Array Value := #[.int .u32 996825010, .int .u32 642813549, .int .u32 513874426, .int .u32 1027748829, .int .u32 705979059]
noncomputable def laidWorld (os : Os) : World := { World.holding Tryd.prog os ⟨#[], #[], []⟩ with heap := ((World.holding Tryd.prog os ⟨#[], #[], []⟩).heap.modify 0 (putCells cells_laid_entail_bech_turns)) }
/-- What the walks need of the variables: the five numbers of the check. -/
def Facts (w : World) : Prop := Tn w
theorem turns_listed {H : Type} : (Rows.laid_entail_bech_turns : DataW H) = Lib.tabData .u32 [996825010, 642813549, 513874426, 1027748829, 705979059] := by rfl
theorem facts_of {W : World} (h : laidMetH Tryd.prog Rows.bechCheckRow.laid W) : Facts W := by
  have h2 : laidMet Tryd.prog [("entail/bech.turns", Rows.laid_entail_bech_turns)] W := h
  rw [turns_listed] at h2
  exact Lib.tabIs_of_head (by kernel_rfl : Tryd.prog.globalNamed "entail/bech.turns" = some 0) (by kernel_rfl) (by kernel_rfl : Tryd.prog.underlying 43 = some (.array 5 24)) (by kernel_rfl) (by kernel_rfl) (by kernel_rfl) h2
end Go.Proofs.YtemgaoikngebeaaDoor
